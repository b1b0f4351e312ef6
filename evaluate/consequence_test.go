package evaluate_test

import (
	"fmt"
	"math"
	"math/rand"
	"reflect"
	"slices"
	"strings"
	"testing"

	"coldplug/api"
	"coldplug/evaluate"
	"coldplug/match"
	"coldplug/tree"
)

// all returns what all functions return, printed; nil and empty lists are printed in the same way.
func all(l []api.Rule, in api.Input) string {
	r, ticks, err := evaluate.Rules(l, in)
	d, second := evaluate.Draft(l, in)
	held, third := evaluate.Held(l, in)
	return fmt.Sprintf("%+v %d %d %+v %d %v %d", r, ticks, err, d, second, held, third)
}

// clone returns an input that shares no memory with in, with room behind its lists.
func clone(in api.Input) api.Input {
	in.Tree.Devices = append(make([]api.Device, 0, len(in.Tree.Devices)+3), in.Tree.Devices...)
	for i, d := range in.Tree.Devices {
		in.Tree.Devices[i].Attrs = append(make([]api.Attr, 0, len(d.Attrs)+3), d.Attrs...)
	}
	in.Parent.Props = append(make([]api.Attr, 0, len(in.Parent.Props)+3), in.Parent.Props...)
	in.Helpers = append(make([]api.Helper, 0, len(in.Helpers)+3), in.Helpers...)
	return in
}

// cloneRules returns rules that share no memory with l, with room behind their lists.
func cloneRules(l []api.Rule) []api.Rule {
	l = append(make([]api.Rule, 0, len(l)+3), l...)
	for i, rule := range l {
		l[i].Terms = append(make([]api.Term, 0, len(rule.Terms)+3), rule.Terms...)
	}
	return l
}

// The chapter's consequences: the results do not depend on other devices, on present names of interfaces, or on more of the parent's record than its properties.
func TestOthersDoNotCount(t *testing.T) {
	r := rand.New(rand.NewSource(16))
	for range 3000 {
		l, in := randomRules(r), randomInput(r)
		want := all(l, in)
		other := clone(in)
		way := []int{in.Index}
		for _, d := range tree.Ancestors(in.Tree, in.Index) {
			way = append(way, d.Index)
		}
		other.Tree.Devices = slices.DeleteFunc(other.Tree.Devices, func(d api.Device) bool { return !slices.Contains(way, d.Index) })
		for i, d := range other.Tree.Devices {
			if d.Kind == api.KindNet {
				other.Tree.Devices[i].Name = fmt.Sprint("wan", i)
			}
		}
		other.Parent = api.Record{Props: in.Parent.Props, Name: "x", Links: []string{"y"}}
		if got := all(l, other); got != want {
			t.Fatalf("%+v with %+v: got %s, want %s", l, in, got, want)
		}
	}
}

// harmless returns a rule that changes nothing, as a match that stands ahead of all PROGRAM and IMPORT does not hold for the device.
func harmless(r *rand.Rand, d api.Device) api.Rule {
	l := []api.Term{{Key: api.KeyKernel, Op: api.OpIsNot, Value: "*"}}
	if r.Intn(2) == 0 {
		l = []api.Term{{Key: api.KeyAction, Op: api.OpIsNot, Value: "*"}}
	}
	for range 6 {
		x := randomMatch(r)
		if match.Static(x) && match.Device(x, d) {
			l = slices.Insert(l, r.Intn(2), x)
		} else {
			l = append(l, x)
		}
		l = append(l, randomAssignment(r))
	}
	return api.Rule{File: "harmless", Terms: l}
}

// The chapter's consequences: a rule in which a match ahead of all PROGRAM and IMPORT does not hold has no influence, and neither has one that is not read.
func TestHarmlessRules(t *testing.T) {
	r := rand.New(rand.NewSource(17))
	for range 3000 {
		l, in := randomRules(r), randomInput(r)
		want, _ := evaluate.Draft(l, in)
		d, _ := tree.Find(in.Tree, in.Index)
		more := l
		for range 1 + r.Intn(4) {
			more = slices.Insert(slices.Clone(more), r.Intn(len(more)+1), harmless(r, d))
		}
		got, _ := evaluate.Draft(more, in)
		sameDraft(t, fmt.Sprintf("%+v with %+v", more, in), got, want)
		jump := api.Rule{Terms: []api.Term{{Key: api.KeyGoto, Op: api.OpAssign, Value: "behind"}}}
		label := api.Rule{Terms: []api.Term{{Key: api.KeyLabel, Op: api.OpAssign, Value: "behind"}}}
		got, _ = evaluate.Draft(slices.Concat([]api.Rule{jump}, randomRules(r), []api.Rule{label}, l), in)
		sameDraft(t, fmt.Sprintf("a jump ahead of %+v with %+v", l, in), got, want)
		if t.Failed() {
			t.FailNow()
		}
	}
}

// The chapter's consequences: the ticks are at most MaxCalls times the limit.
func TestMostTicks(t *testing.T) {
	r := rand.New(rand.NewSource(18))
	for range 1000 {
		in := input(disk)
		in.Limit = 1 + r.Intn(12)
		var lines []string
		for range r.Intn(30) {
			lines = append(lines, pick(r, `PROGRAM=="slow"`, `IMPORT{program}=="slow"`, `PROGRAM!="empty", PROGRAM=="items"`, `PROGRAM=="bad"`))
		}
		_, ticks, err := evaluate.Rules(rulesOf(t, lines...), in)
		if err != api.OK || ticks > 16*in.Limit {
			t.Fatalf("%q with the limit %d: %d ticks", lines, in.Limit, ticks)
		}
	}
}

// R4 and R5: arguments stay as they are, and so does the room behind their lists; the same arguments give the same results.
func TestUnchangedArguments(t *testing.T) {
	r := rand.New(rand.NewSource(19))
	for range 2000 {
		l, in := randomRules(r), randomInput(r)
		rules, room := cloneRules(l), clone(in)
		first := all(rules, room)
		if !reflect.DeepEqual(rules, cloneRules(l)) || !reflect.DeepEqual(room, clone(in)) {
			t.Fatalf("%+v or %+v was changed", l, in)
		}
		if behind := rules[:cap(rules)][len(l):]; !reflect.DeepEqual(behind, make([]api.Rule, len(behind))) {
			t.Fatalf("the room behind the rules was changed: %+v", behind)
		}
		if behind := room.Parent.Props[:cap(room.Parent.Props)][len(in.Parent.Props):]; !slices.Equal(behind, make([]api.Attr, len(behind))) {
			t.Fatalf("the room behind the properties was changed: %+v", behind)
		}
		if behind := room.Tree.Devices[:cap(room.Tree.Devices)][len(in.Tree.Devices):]; !reflect.DeepEqual(behind, make([]api.Device, len(behind))) {
			t.Fatalf("the room behind the devices was changed: %+v", behind)
		}
		if again := all(rules, room); again != first {
			t.Fatalf("%s, then %s", first, again)
		}
	}
}

// R4: results share no memory with arguments or with each other.
func TestSharedMemory(t *testing.T) {
	lines := []string{`TAG+="a", SYMLINK+="a", RUN+="a", LOAD+="a", OWNER:="a"`, `TAG+="b", SYMLINK+="b", RUN+="b", LOAD+="b", GROUP:="b"`, `IMPORT{parent}=="*"`}
	l, in := rulesOf(t, lines...), input(disk)
	want := all(l, in)
	d, _ := evaluate.Draft(l, in)
	r, _, _ := evaluate.Rules(l, in)
	held, _ := evaluate.Held(l, in)
	for _, list := range [][]string{d.Tags, d.Links, d.Run, d.Load, r.Tags, r.Links, r.Run, r.Load} {
		if len(list) != 2 {
			t.Fatalf("%q has not two elements", list)
		}
		list = append(list[:0], "changed")
		_ = append(list, "changed", "changed")
	}
	for _, list := range []*[]api.Attr{&d.Props, &r.Props} {
		for i := range *list {
			(*list)[i] = api.Attr{Name: "changed"}
		}
	}
	d.Closed[0], held[0] = api.Term{}, 9
	if got := all(l, in); got != want {
		t.Errorf("got %s, want %s", got, want)
	}
	if got := all(rulesOf(t, lines...), input(disk)); got != want || !reflect.DeepEqual(in, input(disk)) {
		t.Error("an argument was changed with a result")
	}
}

// R1 and R5: rules and inputs that are not valid give one result or another, and always the same.
func TestInvalidArguments(t *testing.T) {
	long := strings.Repeat("\xff$[", 1<<12)
	var terms []api.Term
	for key := -2; key < 28; key++ {
		for op := -1; op < 8; op++ {
			for _, value := range []string{"", "*", "$", long, "a"} {
				terms = append(terms, api.Term{Key: key, Name: pick(rand.New(rand.NewSource(int64(key*op))), "", "program", "parent", "builtin", "A", long), Op: op, Value: value})
			}
		}
	}
	l := []api.Rule{{}, {Terms: terms}, {Terms: []api.Term{{Key: api.KeyGoto, Op: api.OpAssign, Value: "none"}}}}
	for _, x := range terms {
		l = append(l, api.Rule{Terms: []api.Term{x}}, api.Rule{Terms: []api.Term{{Key: api.KeyTag, Op: api.OpIsNot, Value: "none"}, x, {Key: api.KeyImport, Name: "program", Op: api.OpIsNot, Value: "$"}, {Key: api.KeyTag, Op: api.OpMore, Value: "t"}}})
	}
	r := rand.New(rand.NewSource(20))
	for title, x := range map[string]api.Tree{
		"valid":          devices(),
		"its own parent": {Devices: []api.Device{plain(7, 7, "a", "b")}},
		"a ring":         {Devices: []api.Device{plain(7, 2, "a", "b"), plain(2, 7, "b", "c")}},
		"no parent":      {Devices: []api.Device{plain(7, 3, "a", "b")}},
		"one Index":      {Devices: []api.Device{plain(7, 0, "a", "b"), block(7, 7, long, "A", long)}},
		"zero devices":   {Devices: make([]api.Device, 300)},
	} {
		for _, index := range []int{math.MinInt, -1, 0, 2, 7, math.MaxInt} {
			for range 3 {
				r.Shuffle(len(l), func(i, j int) { l[i], l[j] = l[j], l[i] })
				in := api.Input{Action: long, Tree: x, Index: index, Parent: api.Record{Props: attrs("b", "", "a", long, "A", "\n")}, Helpers: []api.Helper{{Command: "[", Ticks: -1}, {Command: "*", Output: long, Ticks: math.MaxInt}}, Limit: pick(r, math.MinInt, 0, math.MaxInt)}
				if first, again := all(l, in), all(l, in); first != again {
					t.Errorf("%s: %s, then %s", title, first, again)
				}
			}
		}
	}
}
