package compile_test

import (
	"fmt"
	"math/rand"
	"slices"
	"strconv"
	"testing"

	"coldplug/api"
	"coldplug/compile"
	"coldplug/evaluate"
	"coldplug/grammar"
	"coldplug/helper"
	"coldplug/tree"
)

// pick returns one of some values.
func pick[T any](r *rand.Rand, l ...T) T { return l[r.Intn(len(l))] }

func randomGlob(r *rand.Rand) string {
	return pick(r, "*", "*", "?*", "", "a*", "b*|a?", "[!a]*", "a", "b", "b1", "*1", "|a", "x")
}

func randomCommand(r *rand.Rand) string {
	return pick(r, "one", "two $id", "fail", "slow", "items", "n %n")
}

// randomMatch returns a match with any key, often one that is static.
func randomMatch(r *rand.Rand) api.Term {
	x := api.Term{Key: pick(r, 1+r.Intn(api.KeyImport), 1+r.Intn(api.KeyImport), api.KeySubsystem, api.KeyKernel, api.KeyProgram), Op: pick(r, api.OpIs, api.OpIs, api.OpIsNot), Value: randomGlob(r)}
	switch x.Key {
	case api.KeySubsystem:
		x.Value = pick(r, "a", "b", "ab", "a*", randomGlob(r))
	case api.KeyAttr, api.KeyAttrs:
		x.Name = pick(r, "A", "B")
	case api.KeyEnv:
		x.Name = pick(r, "A", "B", "ID_PATH", "P1")
	case api.KeyProgram:
		x.Value = randomCommand(r)
	case api.KeyImport:
		x.Name, x.Value = pick(r, "program", "parent", "builtin"), randomCommand(r)
		switch x.Name {
		case "parent":
			x.Value = pick(r, "*", "A|P*", "none")
		case "builtin":
			x.Value = pick(r, "path", "content", "net")
		}
	}
	return x
}

// randomAssignment returns an assignment that leaves a trace in the record.
func randomAssignment(r *rand.Rand) api.Term {
	x := api.Term{Key: pick(r, api.KeyEnv, api.KeyTag, api.KeySymlink, api.KeyRun), Op: api.OpMore, Value: pick(r, "a", "b1", "$kernel", "%c", "$env{A}", "$id")}
	if x.Key == api.KeyEnv {
		x.Name = pick(r, "A", "B", "P1")
	}
	return x
}

// randomRule returns a rule of a few matches and assignments in any order, perhaps with a LABEL and a GOTO.
func randomRule(r *rand.Rand) api.Rule {
	var l []api.Term
	for range pick(r, 0, 0, 1, 1, 2, 3, 4) {
		l = append(l, randomMatch(r))
	}
	for range r.Intn(4) {
		l = append(l, randomAssignment(r))
	}
	if r.Intn(3) == 0 {
		l = append(l, api.Term{Key: api.KeyLabel, Op: api.OpAssign, Value: pick(r, "a", "b", "c")})
	}
	if r.Intn(3) == 0 {
		l = append(l, api.Term{Key: api.KeyGoto, Op: api.OpAssign, Value: pick(r, "a", "b", "c")})
	}
	r.Shuffle(len(l), func(i, j int) { l[i], l[j] = l[j], l[i] })
	return api.Rule{File: pick(r, "f", "g"), Line: r.Intn(9), Terms: l}
}

// randomRules returns rules that are valid.
func randomRules(r *rand.Rand) []api.Rule {
	var l []api.Rule
	for range r.Intn(16) {
		if rule := randomRule(r); grammar.Check(rule.Terms) == api.OK {
			l = append(l, rule)
		}
	}
	l, _ = grammar.Link(l)
	return l
}

func randomDevice(r *rand.Rand, index, parent int) api.Device {
	d := plain(index, parent, pick(r, "a", "b", "c", "a1", "b1"), pick(r, "a", "b", "ab"))
	d.Driver, d.Kind = pick(r, "", "a", "b1"), pick(r, api.KindPlain, api.KindBlock, api.KindNet)
	for _, n := range []string{"A", "B"} {
		if r.Intn(2) == 0 {
			d.Attrs = append(d.Attrs, api.Attr{Name: n, Value: pick(r, "a", "b", "a1")})
		}
	}
	switch d.Kind {
	case api.KindBlock:
		d.Number = index
		d.Attrs = append(d.Attrs, attrs("content", pick(r, "fs:a:b", "none"))...)
	case api.KindNet:
		d.Name = "lan" + strconv.Itoa(index)
	}
	return d
}

// randomTree returns a valid tree with at least one device.
func randomTree(r *rand.Rand) api.Tree {
	root := plain(1+r.Intn(20), 0, "a", pick(r, "a", "b"))
	x, indexes := api.Tree{Devices: []api.Device{root}}, []int{0, root.Index}
	for range r.Intn(12) {
		index := 1 + r.Intn(20)
		// What does not fit is left out.
		if more, err := tree.Insert(x, randomDevice(r, index, pick(r, indexes...))); err == api.OK {
			x, indexes = more, append(indexes, index, index, index)
		}
	}
	return x
}

// randomInput returns a valid input, for a device that is there.
func randomInput(r *rand.Rand) api.Input {
	helpers := []api.Helper{
		{Command: "one", Output: "o k", Ticks: 1},
		{Command: "two [ab]*", Output: "A=a;B=b", Ticks: 2},
		{Command: "fail", Output: "A=b", Fails: true, Ticks: 3},
		{Command: "slow", Output: "A=b", Ticks: 30},
		{Command: "items", Output: "A=a1;P1=1;A=", Ticks: 0},
	}
	in := api.Input{Action: pick(r, "add", "b"), Tree: randomTree(r), Helpers: helpers[:r.Intn(6)], Limit: pick(r, 1, 20, 1000)}
	in.Index = pick(r, in.Tree.Devices...).Index
	if r.Intn(3) > 0 {
		in.Parent = api.Record{Path: "/p", Index: 3, Props: attrs("A", "b", "P1", "a", "P2", "x"), Tags: []string{"a"}}
	}
	return in
}

// checkInput checks that rules and an input are valid.
func checkInput(t *testing.T, l []api.Rule, in api.Input) {
	t.Helper()
	for _, rule := range l {
		if err := grammar.Check(rule.Terms); err != api.OK {
			t.Fatalf("no rule: %+v", rule)
		}
	}
	if _, faults := grammar.Link(l); len(faults) > 0 {
		t.Fatalf("rules that do not link: %+v", l)
	}
	if tree.Check(in.Tree) != api.OK || helper.Check(in.Helpers, in.Limit) != api.OK {
		t.Fatalf("no input: %+v", in)
	}
}

// P16.1, P16.2 and P16.3: many rules and inputs against a second reading of the chapter.
func TestRandomRules(t *testing.T) {
	r := rand.New(rand.NewSource(16))
	seen := map[string]int{}
	for range 6000 {
		l, in := randomRules(r), randomInput(r)
		checkInput(t, l, in)
		p := compile.New(l)
		sameRules(t, "Rules", p.Rules(), l)
		if got, want := p.Keys(), refKeys(l); !slices.Equal(got, want) {
			t.Errorf("%+v: the keys are %q, want %q", l, got, want)
		}
		for _, d := range in.Tree.Devices {
			got, want := p.Candidates(d), refCandidates(l, d)
			if !slices.Equal(got, want) {
				t.Errorf("%+v: the candidates for %+v are %v, want %v", l, d, got, want)
			}
			seen["candidates"] += len(want)
			seen["others"] += len(l) - len(want)
			in.Index = d.Index
			sameAsRules(t, l, in)
			count(seen, l, in, want)
		}
		seen["keys"] += len(p.Keys())
		if t.Failed() {
			t.FailNow()
		}
	}
	for what, least := range map[string]int{"candidates": 50000, "others": 30000, "keys": 2000, "ticks": 5000, "jumps to others": 500} {
		if seen[what] < least {
			t.Errorf("%s: %d times only", what, seen[what])
		}
	}
}

// count counts what random rules have come across.
func count(seen map[string]int, l []api.Rule, in api.Input, candidates []int) {
	_, ticks, _ := evaluate.Rules(l, in)
	seen["ticks"] += min(ticks, 1)
	held, _ := evaluate.Held(l, in)
	for _, at := range held {
		label := valueOf(l[at], api.KeyGoto)
		for next := at + 1; label != "" && next < len(l); next++ {
			if valueOf(l[next], api.KeyLabel) == label {
				if !slices.Contains(candidates, next) {
					seen["jumps to others"]++
				}
				break
			}
		}
	}
}

// valueOf returns the value of the term of a rule with a key, or the empty text.
func valueOf(rule api.Rule, key int) string {
	for _, x := range rule.Terms {
		if x.Key == key {
			return x.Value
		}
	}
	return ""
}

// The chapter's consequences: every rule all of whose matches hold is a candidate.
func TestHeldAreCandidates(t *testing.T) {
	r := rand.New(rand.NewSource(17))
	for range 5000 {
		l, in := randomRules(r), randomInput(r)
		d, _ := tree.Find(in.Tree, in.Index)
		candidates := compile.New(l).Candidates(d)
		held, _ := evaluate.Held(l, in)
		for _, at := range held {
			if !slices.Contains(candidates, at) {
				t.Fatalf("%+v with %+v: %d held, the candidates are %v", l, in, at, candidates)
			}
		}
	}
}

// The chapter's consequences: taking out a rule that is no candidate and has no label changes nothing.
func TestTakingOut(t *testing.T) {
	r := rand.New(rand.NewSource(18))
	out := 0
	for range 5000 {
		l, in := randomRules(r), randomInput(r)
		d, _ := tree.Find(in.Tree, in.Index)
		p := compile.New(l)
		want, ticks, _ := p.Evaluate(in)
		candidates := p.Candidates(d)
		for at := range l {
			if slices.Contains(candidates, at) || valueOf(l[at], api.KeyLabel) != "" {
				continue
			}
			out++
			less := compile.New(slices.Delete(slices.Clone(l), at, at+1))
			got, n, _ := less.Evaluate(in)
			if fmt.Sprintf("%+v", got) != fmt.Sprintf("%+v", want) || n != ticks {
				t.Fatalf("%+v without %d, with %+v: got %+v and %d, want %+v and %d", l, at, in, got, n, want, ticks)
			}
		}
	}
	if out < 5000 {
		t.Errorf("%d rules taken out only", out)
	}
}
