package grammar_test

import (
	"math/rand"
	"reflect"
	"slices"
	"strconv"
	"testing"

	"coldplug/api"
	"coldplug/grammar"
)

// rule returns a rule of a line: with a label and a jump, of which empty ones are left out.
func rule(line int, label, to string) api.Rule {
	r := api.Rule{File: "f" + strconv.Itoa(line%3), Line: line, Terms: []api.Term{term(api.KeyKernel, "", api.OpIs, "a"), term(api.KeyTag, "", api.OpAssign, "b")}}
	if label != "" {
		r.Terms = append(r.Terms, term(api.KeyLabel, "", api.OpAssign, label))
	}
	if to != "" {
		r.Terms = slices.Insert(r.Terms, line%len(r.Terms), term(api.KeyGoto, "", api.OpAssign, to))
	}
	return r
}

// valueOf returns the value of the first term with a key, and false if there is none.
func valueOf(r api.Rule, key int) (string, bool) {
	for _, t := range r.Terms {
		if t.Key == key {
			return t.Value, true
		}
	}
	return "", false
}

// stays reports whether a rule stays, asking the same of the rules that it could jump to.
func stays(l []api.Rule, i int) bool {
	to, jumps := valueOf(l[i], api.KeyGoto)
	for j := i + 1; jumps && j < len(l); j++ {
		label, has := valueOf(l[j], api.KeyLabel)
		if has && label == to && stays(l, j) {
			return true
		}
	}
	return !jumps
}

// linkAgrees checks Link against the reference, and the chapter's consequences; it returns how many rules were left out.
func linkAgrees(t *testing.T, l []api.Rule) int {
	t.Helper()
	var rules []api.Rule
	var faults []api.Fault
	for i, r := range l {
		if stays(l, i) {
			rules = append(rules, r)
		} else {
			faults = append(faults, api.Fault{File: r.File, Line: r.Line, Errno: api.ErrGrammarLabel})
		}
	}
	gotRules, gotFaults := grammar.Link(l)
	if !slices.EqualFunc(gotRules, rules, sameRule) || !slices.Equal(gotFaults, faults) {
		t.Fatalf("Link(%+v): got %+v and %+v, want %+v and %+v", l, gotRules, gotFaults, rules, faults)
	}
	again, none := grammar.Link(gotRules)
	if !slices.EqualFunc(again, gotRules, sameRule) || len(none) > 0 {
		t.Fatalf("Link of what stays, %+v: got %+v and %+v", gotRules, again, none)
	}
	for i, r := range gotRules {
		to, jumps := valueOf(r, api.KeyGoto)
		if jumps && !slices.ContainsFunc(gotRules[i+1:], func(r api.Rule) bool { label, has := valueOf(r, api.KeyLabel); return has && label == to }) {
			t.Fatalf("the rule %+v stays, but can not reach its label", r)
		}
	}
	return len(faults)
}

func sameRule(a, b api.Rule) bool {
	return a.File == b.File && a.Line == b.Line && slices.Equal(a.Terms, b.Terms)
}

// linesAre checks which lines stay in Link, and which are left out.
func linesAre(t *testing.T, stay, out []int, l ...api.Rule) {
	t.Helper()
	rules, faults := grammar.Link(l)
	var gotStay, gotOut []int
	for _, r := range rules {
		gotStay = append(gotStay, r.Line)
	}
	for _, f := range faults {
		gotOut = append(gotOut, f.Line)
	}
	if !slices.Equal(gotStay, stay) || !slices.Equal(gotOut, out) {
		t.Errorf("Link(%+v): got %v and %v, want %v and %v", l, gotStay, gotOut, stay, out)
	}
}

// P10.5
func TestLink(t *testing.T) {
	linesAre(t, nil, nil)
	linesAre(t, []int{1}, nil, rule(1, "", ""))
	linesAre(t, []int{1}, nil, rule(1, "a", ""))
	linesAre(t, nil, []int{1}, rule(1, "", "a"))
	// The chapter's example: what is left out takes its label along.
	linesAre(t, nil, []int{1, 2}, rule(1, "", "end"), rule(2, "end", "no"))
	// Jumps go forward, and not to the rule itself.
	linesAre(t, []int{1}, []int{2}, rule(1, "a", ""), rule(2, "", "a"))
	linesAre(t, nil, []int{1}, rule(1, "a", "a"))
	linesAre(t, []int{1, 2}, nil, rule(1, "a", "a"), rule(2, "a", ""))
	linesAre(t, []int{1, 3, 4}, []int{2}, rule(1, "", "a"), rule(2, "a", "no"), rule(3, "a", ""), rule(4, "b", ""))
	linesAre(t, []int{1, 2, 3}, []int{4}, rule(1, "", "x"), rule(2, "x", ""), rule(3, "x", ""), rule(4, "", "x"))
	// Labels are compared byte by byte.
	linesAre(t, []int{6, 7}, []int{1, 2, 3, 4, 5}, rule(1, "", "a"), rule(2, "", "AA"), rule(3, "", "A."), rule(4, "", "A "), rule(5, "", ".A"), rule(6, "", "A"), rule(7, "A", ""))
}

// P10.5: only LABEL is a label, only GOTO jumps, and what else rules have is of no importance.
func TestLinkLooksAtLabelsAlone(t *testing.T) {
	for key := range 27 {
		to, from := api.Rule{Line: 1, Terms: []api.Term{term(api.KeyGoto, "", api.OpAssign, "x")}}, api.Rule{Line: 2, Terms: []api.Term{term(key, "", api.OpAssign, "x")}}
		switch key {
		case api.KeyLabel:
			linesAre(t, []int{1, 2}, nil, to, from)
		case api.KeyGoto:
			linesAre(t, nil, []int{1, 2}, to, from)
		default:
			linesAre(t, []int{2}, []int{1}, to, from)
		}
	}
	linesAre(t, []int{0, 0}, nil, api.Rule{}, api.Rule{Terms: []api.Term{}})
	// An empty value is a value, too.
	linesAre(t, nil, []int{5}, api.Rule{Line: 5, Terms: []api.Term{term(api.KeyGoto, "", api.OpAssign, "")}})
}

// P10.5: files and lines of rules need not ascend, and rules may be equal.
func TestLinkGoesByPlaces(t *testing.T) {
	a, b := rule(9, "", "end"), rule(3, "end", "")
	linesAre(t, []int{9, 9, 3}, []int{9}, a, a, b, a)
	linesAre(t, []int{3, 9, 3}, []int{9}, b, a, b, a)
	_, faults := grammar.Link([]api.Rule{{File: "z", Line: 7, Terms: a.Terms}, {Line: -1, Terms: a.Terms}, {File: "a", Line: 7, Terms: a.Terms}})
	if want := []api.Fault{{File: "z", Line: 7, Errno: 107}, {Line: -1, Errno: 107}, {File: "a", Line: 7, Errno: 107}}; !slices.Equal(faults, want) {
		t.Errorf("Link: got the faults %+v, want %+v", faults, want)
	}
}

// P10.5: all short lists of rules with two labels.
func TestAllShortLinks(t *testing.T) {
	texts := []string{"", "a", "b"}
	out := map[int]int{}
	var extend func(l []api.Rule)
	extend = func(l []api.Rule) {
		out[linkAgrees(t, l)]++
		if len(l) == 4 {
			return
		}
		for _, label := range texts {
			for _, to := range texts {
				extend(append(slices.Clone(l), rule(len(l)+1, label, to)))
			}
		}
	}
	extend(nil)
	for n := range 5 {
		if out[n] < 100 {
			t.Errorf("%d rules were left out %d times only", n, out[n])
		}
	}
}

// P10.5: long random lists of rules.
func TestRandomLinks(t *testing.T) {
	random := rand.New(rand.NewSource(50))
	texts := []string{"", "", "", "a", "b", "c", "d", "e"}
	for range 3000 {
		var l []api.Rule
		for i := range random.Intn(30) {
			l = append(l, rule(i+1, texts[random.Intn(8)], texts[random.Intn(8)]))
		}
		linkAgrees(t, l)
	}
}

// P10.5: a long chain, each rule of which leads to the next one, with its end and without.
func TestLinkOfAChain(t *testing.T) {
	const n = 100000
	var l []api.Rule
	for i := range n {
		l = append(l, rule(i+1, "l"+strconv.Itoa(i), "l"+strconv.Itoa(i+1)))
	}
	if rules, faults := grammar.Link(l); len(rules) != 0 || len(faults) != n {
		t.Errorf("without the end: got %d rules and %d faults", len(rules), len(faults))
	}
	l = append(l, rule(n+1, "l"+strconv.Itoa(n), ""))
	if rules, faults := grammar.Link(l); len(rules) != n+1 || len(faults) != 0 {
		t.Errorf("with the end: got %d rules and %d faults", len(rules), len(faults))
	}
}

// R4: rules that stay share no memory with the argument, and none with each other, though the argument's rules do.
func TestLinkedRulesAreNew(t *testing.T) {
	terms := []api.Term{one(api.KeyTag), one(api.KeyRun), term(0, "spare", 0, "")}
	room := []api.Rule{{File: "f", Line: 1, Terms: terms[:1]}, {File: "f", Line: 2, Terms: terms[:2]}, rule(3, "", "no"), {File: "spare"}}
	before, termsBefore := slices.Clone(room), slices.Clone(terms)
	rules, _ := grammar.Link(room[:3])
	if !reflect.DeepEqual(room, before) || !slices.Equal(terms, termsBefore) {
		t.Fatal("Link changed its argument")
	}
	spoil(rules[0].Terms)
	if !slices.Equal(terms, termsBefore) || !slices.Equal(rules[1].Terms, terms[:2]) {
		t.Error("a change of the first rule changed others")
	}
	spoil(terms)
	if rules[1].Terms[0] != termsBefore[0] {
		t.Error("a change of the argument changed a result")
	}
}
