package grammar_test

import (
	"regexp"
	"slices"
	"strconv"
	"strings"
	"testing"

	"coldplug/api"
	"coldplug/grammar"
	"coldplug/lexer"
)

// table is the chapter's table, as it is written there.
const table = `
| KeyAction 1 | ACTION | | == != glob | |
| KeyKernel 2 | KERNEL | | == != glob | |
| KeySubsystem 3 | SUBSYSTEM | | == != glob | |
| KeyDriver 4 | DRIVER | | == != glob | |
| KeyAttr 5 | ATTR | a name | == != glob | |
| KeyEnv 6 | ENV | a key | == != glob | = += template |
| KeyTag 7 | TAG | | == != glob | = += -= template |
| KeyKernels 8 | KERNELS | | == != glob | |
| KeySubsystems 9 | SUBSYSTEMS | | == != glob | |
| KeyDrivers 10 | DRIVERS | | == != glob | |
| KeyAttrs 11 | ATTRS | a name | == != glob | |
| KeyProgram 12 | PROGRAM | | == != template | |
| KeyResult 13 | RESULT | | == != glob | |
| KeyImport 14 | IMPORT | program | == != template | |
| | | parent | == != glob | |
| | | builtin | == != one of path, content, net | |
| KeyName 15 | NAME | | | = := template |
| KeySymlink 16 | SYMLINK | | | = += -= := template |
| KeyOwner 17 | OWNER | | | = := template |
| KeyGroup 18 | GROUP | | | = := template |
| KeyMode 19 | MODE | | | = := template |
| KeyRun 20 | RUN | | | = += := template |
| KeyLoad 21 | LOAD | | | += template |
| KeyPriority 22 | PRIORITY | | | = a number from -1000 to 1000 |
| KeyLabel 23 | LABEL | | | = a name |
| KeyGoto 24 | GOTO | | | = a name |
`

// A row says which values of which ops are right for a key and a name.
type row struct {
	key           int
	written, name string
	ops           []int
	values        string
}

var (
	opsWritten = [...]string{"", "==", "!=", "=", "+=", "-=", ":="}
	rows       = readTable()
	opsCell    = regexp.MustCompile(`^((?:[=!+:-]+ )+)(.+)$`)
	nameText   = regexp.MustCompile(`^[A-Za-z0-9_.:+!-]{1,32}$`)
	keyText    = regexp.MustCompile(`^[A-Z][A-Z0-9_]{0,31}$`)
	numberText = regexp.MustCompile(`^(?:0|-?[1-9][0-9]{0,2}|-?1000)$`)
)

// readTable returns the rows of the table: one for each of its cells with ops and values.
func readTable() []row {
	var list []row
	var last row
	for line := range strings.SplitSeq(strings.TrimSpace(table), "\n") {
		cells := strings.Split(strings.Trim(line, "|"), "|")
		for i, c := range cells {
			cells[i] = strings.TrimSpace(c)
		}
		if cells[0] != "" {
			_, number, _ := strings.Cut(cells[0], " ")
			last.key, _ = strconv.Atoi(number)
			last.written = cells[1]
		}
		last.name = cells[2]
		for _, c := range cells[3:] {
			if words := opsCell.FindStringSubmatch(c); words != nil {
				last.ops, last.values = nil, words[2]
				for _, op := range strings.Fields(words[1]) {
					last.ops = append(last.ops, slices.Index(opsWritten[:], op))
				}
				list = append(list, last)
			}
		}
	}
	return list
}

// hasName reports whether a name is as a cell of the table says.
func hasName(says, name string) bool {
	switch says {
	case "a name":
		return isName(name)
	case "a key":
		return keyText.MatchString(name)
	}
	return name == says
}

func isName(s string) bool { return nameText.MatchString(s) && s != "." && s != ".." }

// termError returns the error of a term, where a function says which kinds of values a value has.
func termError(t api.Term, kinds func(value string) []string) api.Errno {
	left := rows
	keep := func(ok func(r row) bool) bool {
		var kept []row
		for _, r := range left {
			if ok(r) {
				kept = append(kept, r)
			}
		}
		left = kept
		return len(left) > 0
	}
	switch {
	case !keep(func(r row) bool { return r.key == t.Key }):
		return api.ErrGrammarKey
	case !keep(func(r row) bool { return hasName(r.name, t.Name) }):
		return api.ErrGrammarName
	case !keep(func(r row) bool { return slices.Contains(r.ops, t.Op) }):
		return api.ErrGrammarOp
	case !keep(func(r row) bool { return slices.Contains(kinds(t.Value), r.values) }):
		return api.ErrGrammarValue
	}
	return api.OK
}

// The kinds of values, as the table calls them.
const (
	aGlob     = "glob"
	aTemplate = "template"
	aBuiltin  = "one of path, content, net"
	aNumber   = "a number from -1000 to 1000"
	aName     = "a name"
)

// samples are values with the kinds of which they are.
func samples() map[string][]string {
	long := strings.Repeat("a", 300)
	both, named := []string{aGlob, aTemplate}, []string{aGlob, aTemplate, aName}
	list := map[string][]string{
		"[": {aTemplate}, "a[b": {aTemplate}, "[]": {aTemplate}, "[!]": {aTemplate}, "[b-a]": {aTemplate}, "x|[": {aTemplate}, "[%k": {aTemplate},
		"$": {aGlob}, "%": {aGlob}, "$x": {aGlob}, "%x": {aGlob}, "$kernels": {aGlob}, "$attr": {aGlob}, "$env{a}": {aGlob}, "$result{0}": {aGlob}, "a$": {aGlob},
		"[$": nil, "%[": nil, "$x[]": nil, "\t": nil, "a\n": nil, "\x00": nil, "\x7f": nil, "\xff": nil, "é": nil, long[:257]: nil, long: nil,
		long[:32]: named, long[:33]: both, long[:255]: both, long[:256]: both,
	}
	for s := range strings.SplitSeq(" | |a b|*|?|[a]|[!a-c]*|%k|$kernel|$$|%%|$env{K}|%c{2+}|/|a/b|.|..|@|,|#|{|}|{a}|~|'|\"|a\"b|\\|a\\|\\a|disk/%k| 1|1 | a|a |1,000|path,net|net |=|==", "|") {
		list[s] = both
	}
	list[""], list["a|b"], list["|"], list["||"] = both, both, both, both
	for s := range strings.SplitSeq("a A 0a ... .a a.. a:b a+b a-b a!b _ - + ! : -- --1 -0 +0 +1 -a 00 01 007 -01 0x1 1e2 1.0 1_0 1001 -1001 1010 9999 10000 01000 -10000 99999999999999999999 -99999999999999999999 paths pat PATH Net nets content: contents program parent builtin", " ") {
		list[s] = named
	}
	for s := range strings.SplitSeq("0 1 -1 9 -9 10 99 100 999 -999 1000 -1000", " ") {
		list[s] = []string{aGlob, aTemplate, aName, aNumber}
	}
	for s := range strings.SplitSeq("path content net", " ") {
		list[s] = []string{aGlob, aTemplate, aName, aBuiltin}
	}
	return list
}

// checkOf returns the error of terms with values of the samples.
func checkOf(l []api.Term, kinds map[string][]string) api.Errno {
	if len(l) == 0 {
		return api.ErrGrammarEmpty
	}
	if len(l) > 16 {
		return api.ErrGrammarLimit
	}
	seen := map[int]int{}
	for _, t := range l {
		if err := termError(t, func(s string) []string { return kinds[s] }); err != api.OK {
			return err
		}
		seen[t.Key]++
	}
	if seen[api.KeyLabel] > 1 || seen[api.KeyGoto] > 1 {
		return api.ErrGrammarTwice
	}
	return api.OK
}

// writtenOf returns how a key of the table is written.
func writtenOf(key int) string {
	for _, r := range rows {
		if r.key == key {
			return r.written
		}
	}
	return ""
}

// textOf returns how a term is written, right or not.
func textOf(t api.Term) string {
	braces := "{" + t.Name + "}"
	if t.Name == "" {
		braces = ""
	}
	return writtenOf(t.Key) + braces + opsWritten[t.Op] + `"` + strings.ReplaceAll(t.Value, `"`, `\"`) + `"`
}

// formatOf returns the line of terms with values of the samples, and the error.
func formatOf(l []api.Term, kinds map[string][]string) (string, api.Errno) {
	if err := checkOf(l, kinds); err != api.OK {
		return "", err
	}
	var texts []string
	for _, t := range l {
		if strings.HasSuffix(t.Value, `\`) {
			return "", api.ErrLexerForm
		}
		texts = append(texts, textOf(t))
	}
	s := strings.Join(texts, ", ")
	if len(s) > api.MaxLine {
		return "", api.ErrLexerLimit
	}
	return s, api.OK
}

// parseOf returns the terms of a line with values of the samples, and the error.
func parseOf(s string, kinds map[string][]string) ([]api.Term, api.Errno) {
	tokens, err := lexer.Tokens(s)
	if err != api.OK {
		return nil, err
	}
	var list []api.Term
	for _, token := range tokens {
		t := api.Term{Name: token.Name, Op: slices.Index(opsWritten[:], token.Op), Value: token.Value}
		for _, r := range rows {
			if r.written == token.Key {
				t.Key = r.key
			}
		}
		list = append(list, t)
	}
	if err := checkOf(list, kinds); err != api.OK {
		return nil, err
	}
	return list, api.OK
}

// termsAgree checks Check and Format against the reference, and the way back; it returns the error of Format.
func termsAgree(t *testing.T, l []api.Term, kinds map[string][]string) api.Errno {
	t.Helper()
	if got, want := grammar.Check(l), checkOf(l, kinds); got != want {
		t.Fatalf("Check(%+v): got %d, want %d", l, got, want)
	}
	want, err := formatOf(l, kinds)
	got, e := grammar.Format(l)
	if got != want || e != err {
		t.Fatalf("Format(%+v): got %q and %d, want %q and %d", l, got, e, want, err)
	}
	if err == api.OK {
		if back, e := grammar.Parse(got); !slices.Equal(back, l) || e != api.OK {
			t.Fatalf("Parse(%q): got %+v and %d, want %+v", got, back, e, l)
		}
	}
	return err
}

// lineAgrees checks Parse against the reference; it returns the error.
func lineAgrees(t *testing.T, s string, kinds map[string][]string) api.Errno {
	t.Helper()
	want, err := parseOf(s, kinds)
	got, e := grammar.Parse(s)
	if !slices.Equal(got, want) || e != err || e != api.OK && got != nil {
		t.Fatalf("Parse(%q): got %+v and %d, want %+v and %d", s, got, e, want, err)
	}
	return err
}

// enough checks that each of the errors was met at least so often.
func enough(t *testing.T, met map[api.Errno]int, least int, errors ...api.Errno) {
	t.Helper()
	for _, err := range errors {
		if met[err] < least {
			t.Errorf("error %d was met %d times only", err, met[err])
		}
	}
}
