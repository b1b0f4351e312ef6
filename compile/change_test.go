package compile_test

import (
	"math"
	"math/rand"
	"reflect"
	"strings"
	"testing"

	"coldplug/api"
	"coldplug/compile"
	"coldplug/evaluate"
)

// cloneRules returns rules that share no memory with l, with room behind their lists.
func cloneRules(l []api.Rule) []api.Rule {
	l = append(make([]api.Rule, 0, len(l)+3), l...)
	for i, rule := range l {
		l[i].Terms = append(make([]api.Term, 0, len(rule.Terms)+3), rule.Terms...)
	}
	return l
}

// cloneInput returns an input that shares no memory with in, with room behind its lists.
func cloneInput(in api.Input) api.Input {
	in.Tree.Devices = append(make([]api.Device, 0, len(in.Tree.Devices)+3), in.Tree.Devices...)
	for i, d := range in.Tree.Devices {
		in.Tree.Devices[i].Attrs = append(make([]api.Attr, 0, len(d.Attrs)+3), d.Attrs...)
	}
	in.Parent.Props = append(make([]api.Attr, 0, len(in.Parent.Props)+3), in.Parent.Props...)
	in.Helpers = append(make([]api.Helper, 0, len(in.Helpers)+3), in.Helpers...)
	return in
}

// spoil changes all of a list, and the room behind it.
func spoil[T any](l []T, with T) {
	l = l[:cap(l)]
	for i := range l {
		l[i] = with
	}
}

// R4 and the chapter's consequences: a program does not change with the rules that it was made of, nor with what its methods return.
func TestProgramDoesNotChange(t *testing.T) {
	lines := []string{`SUBSYSTEM=="block", TAG+="a", SYMLINK+="a"`, `TAG+="b", RUN+="b"`, `SUBSYSTEM=="net", TAG+="c"`, `SUBSYSTEM=="block", LABEL="d"`}
	l := cloneRules(rulesOf(t, lines...))
	p := compile.New(l)
	want := all(p, input(disk))
	changed := api.Term{Key: api.KeyKernel, Op: api.OpIs, Value: "changed"}
	for _, rules := range [][]api.Rule{l, p.Rules()} {
		for _, rule := range rules {
			spoil(rule.Terms, changed)
		}
		spoil(rules, api.Rule{File: "changed", Line: 9, Terms: []api.Term{changed}})
	}
	for _, index := range []int{disk, eth, pci} {
		spoil(p.Candidates(device(t, index)), 9)
	}
	spoil(p.Keys(), "changed")
	r, _, _ := p.Evaluate(input(disk))
	spoil(r.Tags, "changed")
	spoil(r.Props, api.Attr{Name: "changed"})
	if got := all(p, input(disk)); got != want {
		t.Errorf("got %s, want %s", got, want)
	}
	if got := all(compile.New(rulesOf(t, lines...)), input(disk)); got != want {
		t.Errorf("a new program: got %s, want %s", got, want)
	}
}

// R4: results of two calls share no memory.
func TestResultsShareNothing(t *testing.T) {
	p := compile.New(rulesOf(t, `SUBSYSTEM=="block", TAG+="a"`, `SUBSYSTEM=="block", TAG+="b"`, `TAG+="c"`))
	first, second := p.Candidates(device(t, disk)), p.Candidates(device(t, disk))
	_ = append(first[:0], 7, 7, 7)
	if !reflect.DeepEqual(second, []int{0, 1, 2}) {
		t.Errorf("the candidates became %v", second)
	}
	rules, more := p.Rules(), p.Rules()
	rules[0].Terms[0].Value = "changed"
	_ = append(rules[0].Terms, api.Term{})
	sameRules(t, "Rules", more, rulesOf(t, `SUBSYSTEM=="block", TAG+="a"`, `SUBSYSTEM=="block", TAG+="b"`, `TAG+="c"`))
}

// R4 and R5: arguments stay as they are, and so does the room behind their lists; the same arguments give the same results, in any order of the calls.
func TestUnchangedArguments(t *testing.T) {
	r := rand.New(rand.NewSource(19))
	for range 1000 {
		l, in := randomRules(r), randomInput(r)
		rules, room := cloneRules(l), cloneInput(in)
		p := compile.New(rules)
		first := all(p, room)
		if !reflect.DeepEqual(rules, cloneRules(l)) || !reflect.DeepEqual(room, cloneInput(in)) {
			t.Fatalf("%+v or %+v was changed", l, in)
		}
		if behind := rules[:cap(rules)][len(l):]; !reflect.DeepEqual(behind, make([]api.Rule, len(behind))) {
			t.Fatalf("the room behind the rules was changed: %+v", behind)
		}
		if behind := room.Tree.Devices[:cap(room.Tree.Devices)][len(in.Tree.Devices):]; !reflect.DeepEqual(behind, make([]api.Device, len(behind))) {
			t.Fatalf("the room behind the devices was changed: %+v", behind)
		}
		all(p, randomInput(r))
		if again := all(p, room); again != first {
			t.Fatalf("%s, then %s", first, again)
		}
		if again := all(compile.New(l), in); again != first {
			t.Fatalf("%s, then with a second program %s", first, again)
		}
	}
}

// R1 and R5: rules and inputs that are not valid give one result or another, and always the same.
func TestInvalidArguments(t *testing.T) {
	long := strings.Repeat("\xff$[", 1<<12)
	l := []api.Rule{{}, {Terms: []api.Term{{Key: api.KeyGoto, Op: api.OpAssign, Value: "none"}}}}
	for key := -2; key < 28; key++ {
		for op := -1; op < 8; op++ {
			for _, value := range []string{"", "*", "$", "[", long, "a"} {
				x := api.Term{Key: key, Name: []string{"", "program", "A", long}[(key+op+4)%4], Op: op, Value: value}
				l = append(l, api.Rule{Terms: []api.Term{x}}, api.Rule{Terms: []api.Term{x, {Key: api.KeyTag, Op: api.OpMore, Value: "t"}, x}})
			}
		}
	}
	p := compile.New(l)
	sameRules(t, "rules that are not valid", p.Rules(), l)
	for title, x := range map[string]api.Tree{
		"valid":          devices(),
		"its own parent": {Devices: []api.Device{plain(7, 7, "a", "b")}},
		"a ring":         {Devices: []api.Device{plain(7, 2, "a", "b"), plain(2, 7, "b", "c")}},
		"no parent":      {Devices: []api.Device{plain(7, 3, "a", "b")}},
		"one Index":      {Devices: []api.Device{plain(7, 0, "a", "b"), plain(7, 7, long, long, "A", long)}},
		"zero devices":   {Devices: make([]api.Device, 300)},
	} {
		for _, index := range []int{math.MinInt, -1, 0, 2, 7, math.MaxInt} {
			in := api.Input{Action: long, Tree: x, Index: index, Parent: api.Record{Props: attrs("b", "", "a", long, "A", "\n")}, Helpers: []api.Helper{{Command: "[", Ticks: -1}, {Command: "*", Output: long, Ticks: math.MaxInt}}, Limit: index}
			r, ticks, err := p.Evaluate(in)
			again, n, e := compile.New(l).Evaluate(in)
			if !reflect.DeepEqual(r, again) || ticks != n || err != e {
				t.Errorf("%s: %+v, then %+v", title, r, again)
			}
			for _, d := range x.Devices {
				if !reflect.DeepEqual(p.Candidates(d), p.Candidates(d)) {
					t.Errorf("%s: other candidates for %+v", title, d)
				}
			}
		}
	}
	if r, ticks, err := p.Evaluate(api.Input{}); !reflect.DeepEqual(r, api.Record{}) || ticks != 0 || err != api.ErrEvaluateNone {
		t.Errorf("the zero input: got %+v, %d, %d", r, ticks, err)
	}
}

// P16.3: a program and the definition agree for more rules than a rule set has.
func TestManyRules(t *testing.T) {
	var l []api.Rule
	r := rand.New(rand.NewSource(20))
	for len(l) < api.MaxRules {
		l = append(l, randomRules(r)...)
	}
	for range 20 {
		in := randomInput(r)
		sameAsRules(t, l, in)
		want, _ := evaluate.Held(l, in)
		if len(want) == 0 {
			t.Error("no rule held")
		}
	}
}
