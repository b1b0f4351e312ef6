package evaluate_test

import (
	"fmt"
	"math/rand"
	"reflect"
	"slices"
	"strconv"
	"testing"

	"coldplug/api"
	"coldplug/assign"
	"coldplug/device"
	"coldplug/evaluate"
	"coldplug/grammar"
	"coldplug/helper"
	"coldplug/match"
	"coldplug/name"
	"coldplug/tree"
)

// pick returns one of some values.
func pick[T any](r *rand.Rand, l ...T) T { return l[r.Intn(len(l))] }

func randomGlob(r *rand.Rand) string {
	return pick(r, "*", "*", "?*", "", "a*", "b*|a?", "[!a]*", "a", "b1", "*1", "|a", "x", "add", "o *")
}

func randomTemplate(r *rand.Rand) string {
	s := ""
	for range 1 + r.Intn(2) {
		s += pick(r, "a", "b1", "1", "x ", "$kernel", "%n", "$devpath", "$id", "$id", "$driver", "$attr{A}", "%s{B}", "$env{A}", "$env{B1}", "$env{DEVPATH}", "%c", "$result{1}", "%c{2+}", "%P", "$name", "%%", "")
	}
	return s
}

func randomCommand(r *rand.Rand) string {
	return pick(r, "one", "two $id", "fail", "slow", "items", randomTemplate(r), "n %n")
}

// randomMatch returns a match with any key.
func randomMatch(r *rand.Rand) api.Term {
	x := api.Term{Key: 1 + r.Intn(api.KeyImport), Op: pick(r, api.OpIs, api.OpIs, api.OpIsNot), Value: randomGlob(r)}
	switch x.Key {
	case api.KeyAttr, api.KeyAttrs:
		x.Name = pick(r, "A", "B", "C")
	case api.KeyEnv:
		x.Name = pick(r, "A", "B", "B1", "ID_PATH", "DEVNAME", "P1")
	case api.KeyProgram:
		x.Value = randomCommand(r)
	case api.KeyImport:
		x.Name = pick(r, "program", "parent", "builtin")
		switch x.Name {
		case "program":
			x.Value = randomCommand(r)
		case "parent":
			x.Value = pick(r, "*", "A|P*", "P?", "none")
		default:
			x.Value = pick(r, "path", "content", "net")
		}
	}
	return x
}

// randomAssignment returns an assignment with any key but LABEL and GOTO.
func randomAssignment(r *rand.Rand) api.Term {
	x := api.Term{Key: pick(r, api.KeyEnv, api.KeyEnv, api.KeyTag, api.KeyName, api.KeySymlink, api.KeyOwner, api.KeyGroup, api.KeyMode, api.KeyRun, api.KeyLoad, api.KeyPriority), Value: randomTemplate(r)}
	x.Op = pick(r, api.OpAssign, api.OpMore, api.OpMore, api.OpLess, api.OpFinal)
	switch x.Key {
	case api.KeyEnv:
		x.Name = pick(r, "A", "A", "B", "B1", "P1", "DRIVER")
		x.Op = pick(r, api.OpAssign, api.OpMore)
	case api.KeyMode:
		x.Value = pick(r, "0640", "6%n", "$env{A}")
	case api.KeyPriority:
		x.Value = strconv.Itoa(r.Intn(2001) - 1000)
	}
	return x
}

// randomRule returns a rule of a few matches and assignments in any order, perhaps with a LABEL and a GOTO.
func randomRule(r *rand.Rand) api.Rule {
	var l []api.Term
	for range pick(r, 0, 0, 1, 1, 2, 3, 4) {
		l = append(l, randomMatch(r))
	}
	for range r.Intn(4) {
		l = append(l, randomAssignment(r))
	}
	if r.Intn(3) == 0 {
		l = append(l, api.Term{Key: api.KeyLabel, Op: api.OpAssign, Value: pick(r, "a", "b", "c")})
	}
	if r.Intn(3) == 0 {
		l = append(l, api.Term{Key: api.KeyGoto, Op: api.OpAssign, Value: pick(r, "a", "b", "c")})
	}
	r.Shuffle(len(l), func(i, j int) { l[i], l[j] = l[j], l[i] })
	return api.Rule{File: "f", Line: r.Intn(9), Terms: slices.DeleteFunc(l, func(x api.Term) bool { return grammar.Check([]api.Term{x}) != api.OK })}
}

// randomRules returns rules that are valid.
func randomRules(r *rand.Rand) []api.Rule {
	var l []api.Rule
	for range r.Intn(16) {
		if rule := randomRule(r); grammar.Check(rule.Terms) == api.OK {
			l = append(l, rule)
		}
	}
	l, _ = grammar.Link(l)
	return l
}

func randomAttrs(r *rand.Rand, names ...string) []api.Attr {
	var l []api.Attr
	for _, name := range names {
		if r.Intn(2) == 0 {
			l = append(l, api.Attr{Name: name, Value: pick(r, "a", "b", "a1", "o k")})
		}
	}
	return l
}

func randomDevice(r *rand.Rand, index, parent int) api.Device {
	d := plain(index, parent, pick(r, "a", "b", "c", "a1", "b1", "a!2"), pick(r, "a", "b", "ab"))
	d.Attrs, d.Driver, d.Kind = randomAttrs(r, "A", "B", "C"), pick(r, "", "a", "b1"), pick(r, api.KindPlain, api.KindBlock, api.KindChar, api.KindNet)
	switch d.Kind {
	case api.KindBlock, api.KindChar:
		d.Number = index
		d.Attrs = device.Set(d.Attrs, "content", pick(r, "", "fs:a:b", "none", "raid:a:1:2:1"))
	case api.KindNet:
		d.Attrs = device.Set(d.Attrs, "slot", pick(r, "", "1"))
		d.Name = "lan" + strconv.Itoa(index)
	}
	return d
}

// randomTree returns a valid tree with at least one device.
func randomTree(r *rand.Rand) api.Tree {
	root := plain(1+r.Intn(20), 0, "a", "a")
	x, indexes := api.Tree{Devices: []api.Device{root}}, []int{0, root.Index}
	for range r.Intn(12) {
		index := 1 + r.Intn(20)
		// What does not fit is left out.
		if more, err := tree.Insert(x, randomDevice(r, index, pick(r, indexes...))); err == api.OK {
			x, indexes = more, append(indexes, index, index, index)
		}
	}
	return x
}

func randomHelpers(r *rand.Rand) []api.Helper {
	l := []api.Helper{
		{Command: "one", Output: "o k", Ticks: 1},
		{Command: "two [ab]*", Output: "A=a;B1=$kernel", Ticks: 2},
		{Command: "fail", Output: "A=b", Fails: true, Ticks: 3},
		{Command: "slow", Output: "A=b", Ticks: 30},
		{Command: "items", Output: "A=a1;P1=1;DEVPATH=x;A=", Ticks: 0},
		{Command: "*1", Output: "B=" + pick(r, "a", "b"), Ticks: 5, Fails: r.Intn(3) == 0},
	}
	r.Shuffle(len(l), func(i, j int) { l[i], l[j] = l[j], l[i] })
	return l[:r.Intn(len(l)+1)]
}

// randomInput returns a valid input, for a device that is there.
func randomInput(r *rand.Rand) api.Input {
	in := api.Input{Action: pick(r, "add", "change", ""), Tree: randomTree(r), Helpers: randomHelpers(r), Limit: pick(r, 1, 10, 20, 1000)}
	d := pick(r, in.Tree.Devices...)
	in.Index = d.Index
	if r.Intn(3) > 0 {
		in.Parent = api.Record{Path: "/p", Index: 3, Props: randomAttrs(r, "A", "DEVNAME", "P1", "P2"), Tags: []string{"a"}}
	}
	return in
}

// P15.1: many rules and inputs against a second reading of the chapter.
func TestRandomRules(t *testing.T) {
	r := rand.New(rand.NewSource(15))
	seen := map[string]int{}
	for range 20000 {
		l, in := randomRules(r), randomInput(r)
		checkInput(t, in)
		want, ok := refRead(l, in)
		if !ok {
			t.Fatalf("no device %d in %+v", in.Index, in.Tree)
		}
		what := fmt.Sprintf("%+v with %+v", l, in)
		d, err := evaluate.Draft(l, in)
		sameDraft(t, what, d, want.draft)
		held, second := evaluate.Held(l, in)
		if !slices.Equal(held, want.held) {
			t.Errorf("%s: %v held, want %v", what, held, want.held)
		}
		record, ticks, third := evaluate.Rules(l, in)
		finished, _ := assign.Finish(want.draft, in.Tree, in.Index)
		if !reflect.DeepEqual(plainRecord(record), plainRecord(finished)) || ticks != want.draft.Ticks {
			t.Errorf("%s: got %+v and %d, want %+v and %d", what, record, ticks, finished, want.draft.Ticks)
		}
		if err != api.OK || second != api.OK || third != api.OK {
			t.Errorf("%s: errors %d, %d and %d", what, err, second, third)
		}
		if t.Failed() {
			t.FailNow()
		}
		count(seen, l, want)
	}
	for what, least := range map[string]int{"held": 20000, "not held": 20000, "called": 5000, "ticked": 2000, "imported": 1500, "climbed": 2000, "jumped": 1000, "closed": 1000} {
		if seen[what] < least {
			t.Errorf("%s: %d times only", what, seen[what])
		}
	}
}

// checkInput checks that an input is valid.
func checkInput(t *testing.T, in api.Input) {
	t.Helper()
	if err := tree.Check(in.Tree); err != api.OK {
		t.Fatalf("no tree: %d", err)
	}
	if err := helper.Check(in.Helpers, in.Limit); err != api.OK {
		t.Fatalf("no helpers: %d", err)
	}
	if !device.Sorted(in.Parent.Props) || !name.Text(in.Action) {
		t.Fatalf("no input: %+v", in)
	}
}

// count counts what random rules have come across.
func count(seen map[string]int, l []api.Rule, want reading) {
	seen["held"] += len(want.held)
	seen["not held"] += len(l) - len(want.held)
	seen["called"] += min(want.draft.Calls, 1)
	seen["ticked"] += min(want.draft.Ticks, 1)
	seen["closed"] += min(len(want.draft.Closed), 1)
	for _, at := range want.held {
		for _, x := range l[at].Terms {
			switch {
			case x.Key == api.KeyImport:
				seen["imported"]++
			case match.Upward(x):
				seen["climbed"]++
			case x.Key == api.KeyGoto && at+1 < len(l) && !slices.Contains(want.held, at+1):
				seen["jumped"]++
			}
		}
	}
}
