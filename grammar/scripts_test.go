package grammar_test

import (
	"math/rand"
	"reflect"
	"strings"
	"testing"

	"coldplug/api"
	"coldplug/grammar"
)

// scriptIs checks the rules and faults of a file.
func scriptIs(t *testing.T, f api.File, rules []api.Rule, faults []api.Fault) {
	t.Helper()
	gotRules, gotFaults := grammar.Script(f)
	if len(gotRules)+len(rules) > 0 && !reflect.DeepEqual(gotRules, rules) {
		t.Fatalf("Script(%q): got the rules %+v, want %+v", f.Text, gotRules, rules)
	}
	if len(gotFaults)+len(faults) > 0 && !reflect.DeepEqual(gotFaults, faults) {
		t.Fatalf("Script(%q): got the faults %+v, want %+v", f.Text, gotFaults, faults)
	}
}

// P10.4: rules and faults with the numbers of their lines, both in order.
func TestScript(t *testing.T) {
	const text = "# a comment\n" +
		"TAG=\"a\"\n" +
		"\n" +
		"TAG=\"b\", \\\n" +
		"  GOTO=\"c\"\n" +
		"FOO=\"x\"\n" +
		" \t# ENV=\n" +
		"ENV{K}=\"\\\n" +
		"#\"\n" +
		"nothing\n" +
		"TAG=\"d\"\r\n" +
		"LABEL=\"c\"\\"
	scriptIs(t, api.File{Name: "50-x.rules", Text: text},
		[]api.Rule{
			{File: "50-x.rules", Line: 2, Terms: []api.Term{term(api.KeyTag, "", api.OpAssign, "a")}},
			{File: "50-x.rules", Line: 4, Terms: []api.Term{term(api.KeyTag, "", api.OpAssign, "b"), term(api.KeyGoto, "", api.OpAssign, "c")}},
			{File: "50-x.rules", Line: 8, Terms: []api.Term{term(api.KeyEnv, "K", api.OpAssign, "#")}},
			{File: "50-x.rules", Line: 12, Terms: []api.Term{term(api.KeyLabel, "", api.OpAssign, "c")}},
		},
		[]api.Fault{{File: "50-x.rules", Line: 6, Errno: api.ErrGrammarKey}, {File: "50-x.rules", Line: 10, Errno: api.ErrLexerForm}, {File: "50-x.rules", Line: 11, Errno: api.ErrLexerByte}})
}

// P10.4: files with nothing to read, and any names of files.
func TestScriptOfNothing(t *testing.T) {
	for _, text := range []string{"", "\n", "\n\n\n", "#", "# TAG=\"a\"\n", " \t \n#\\\nTAG=\"a\"\n", "\\", "\\\n\\\n"} {
		scriptIs(t, api.File{Name: "a", Text: text}, nil, nil)
	}
	for _, name := range []string{"", "a/b", "..", "\x00\xff", strings.Repeat("n", 1000)} {
		scriptIs(t, api.File{Name: name, Text: "TAG=\"a\"\n,"}, []api.Rule{{File: name, Line: 1, Terms: []api.Term{term(api.KeyTag, "", api.OpAssign, "a")}}}, []api.Fault{{File: name, Line: 2, Errno: api.ErrGrammarEmpty}})
	}
}

// block is a logical line: how many physical lines it has, and what becomes of it (no terms and no error: nothing).
type block struct {
	text     string
	physical int
	terms    []api.Term
	err      api.Errno
}

// blocks are logical lines of all kinds.
func blocks() []block {
	tag := term(api.KeyTag, "", api.OpMore, "a")
	return []block{
		{"\n", 1, nil, api.OK},
		{" # TAG+=\"a\"\n", 1, nil, api.OK},
		{"#\\\nTAG+=\"a\"\n", 2, nil, api.OK},
		{"TAG+=\"a\"\n", 1, []api.Term{tag}, api.OK},
		{"TAG+=\\\n\"a\"\\\n\\\n\n", 4, []api.Term{tag}, api.OK},
		{"GOTO=\"x\" TAG+=\"a\"\n", 1, []api.Term{term(api.KeyGoto, "", api.OpAssign, "x"), tag}, api.OK},
		{"TAG+=\"a\"#\n", 1, nil, api.ErrLexerForm},
		{"TAG+=\"a\n", 1, nil, api.ErrLexerOpen},
		{"TAG+=\"\xff\"\n", 1, nil, api.ErrLexerByte},
		{strings.Repeat("TAG+=\"a\", \\\n", 16) + "\n", 17, []api.Term{tag, tag, tag, tag, tag, tag, tag, tag, tag, tag, tag, tag, tag, tag, tag, tag}, api.OK},
		{strings.Repeat("TAG+=\"a\", \\\n", 17) + "\n", 18, nil, api.ErrGrammarLimit},
		{strings.Repeat("TAG+=\"a\", \\\n", 103) + "\n", 104, nil, api.ErrLexerLimit},
		{",\n", 1, nil, api.ErrGrammarEmpty},
		{"TAGS+=\"a\"\n", 1, nil, api.ErrGrammarKey},
		{"TAG{a}+=\"a\"\n", 1, nil, api.ErrGrammarName},
		{"TAG:=\"a\"\n", 1, nil, api.ErrGrammarOp},
		{"TAG=\"%\"\n", 1, nil, api.ErrGrammarValue},
		{"LABEL=\"a\"\\\n LABEL=\"b\"\n", 2, nil, api.ErrGrammarTwice},
	}
}

// P10.4: files of random lines.
func TestRandomScripts(t *testing.T) {
	random := rand.New(rand.NewSource(40))
	all := blocks()
	for round := range 3000 {
		f := api.File{Name: "file"}
		var rules []api.Rule
		var faults []api.Fault
		number := 1
		for i := range random.Intn(12) + 1 {
			b := all[random.Intn(len(all))]
			if i == 0 {
				b = all[round%len(all)]
			}
			f.Text += b.text
			switch {
			case b.terms != nil:
				rules = append(rules, api.Rule{File: "file", Line: number, Terms: b.terms})
			case b.err != api.OK:
				faults = append(faults, api.Fault{File: "file", Line: number, Errno: b.err})
			}
			number += b.physical
		}
		scriptIs(t, f, rules, faults)
		// The last line needs no end.
		scriptIs(t, api.File{Name: "file", Text: strings.TrimSuffix(f.Text, "\n")}, rules, faults)
	}
}

// P10.4: neither the limit of rules nor labels that lack are a matter of one file.
func TestLongScript(t *testing.T) {
	rules, faults := grammar.Script(api.File{Name: "a", Text: strings.Repeat("GOTO=\"x\"\nFOO=\"\"\n", 2000)})
	if len(rules) != 2000 || len(faults) != 2000 || rules[1999].Line != 3999 || faults[1999].Line != 4000 {
		t.Errorf("got %d rules and %d faults", len(rules), len(faults))
	}
}

// R4: rules of a file share no memory with each other.
func TestRulesAreNew(t *testing.T) {
	f := api.File{Name: "a", Text: "TAG=\"a\"\nTAG=\"b\", TAG=\"c\"\n"}
	first, _ := grammar.Script(f)
	first[0].Terms = append(first[0].Terms, term(0, "spoilt", 0, ""))
	spoil(first[0].Terms)
	if got := first[1].Terms[0]; got != term(api.KeyTag, "", api.OpAssign, "b") {
		t.Errorf("a change of the first rule changed the second one into %+v", got)
	}
	spoil(first[1].Terms)
	scriptIs(t, f, []api.Rule{
		{File: "a", Line: 1, Terms: []api.Term{term(api.KeyTag, "", api.OpAssign, "a")}},
		{File: "a", Line: 2, Terms: []api.Term{term(api.KeyTag, "", api.OpAssign, "b"), term(api.KeyTag, "", api.OpAssign, "c")}},
	}, nil)
}

// spoil overwrites terms, and the room behind them.
func spoil(l []api.Term) {
	for i := range l[:cap(l)] {
		l[:cap(l)][i] = term(0, "spoilt", 0, "")
	}
}
