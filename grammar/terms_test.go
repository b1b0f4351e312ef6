package grammar_test

import (
	"math"
	"slices"
	"strings"
	"testing"

	"coldplug/api"
	"coldplug/grammar"
)

func term(key int, name string, op int, value string) api.Term {
	return api.Term{Key: key, Name: name, Op: op, Value: value}
}

// checkIs checks the error of terms.
func checkIs(t *testing.T, want api.Errno, l ...api.Term) {
	t.Helper()
	if got := grammar.Check(l); got != want {
		t.Errorf("Check(%+v): got %d, want %d", l, got, want)
	}
}

// one returns a right term of a key.
func one(key int) api.Term {
	for _, r := range rows {
		if r.key != key {
			continue
		}
		t := term(key, r.name, r.ops[0], "1")
		if r.name == "a name" || r.name == "a key" {
			t.Name = "K"
		}
		return t
	}
	return api.Term{}
}

// someNames are names of terms, right and wrong ones.
func someNames() []string {
	long := strings.Repeat("A", 33)
	return []string{
		"", "a", "A", "AB_1", "a:b", "a.b", "x!y", "1", "_A", "1A", ".", "..", "...", "a/b", "a b", " ", "a,b", "é", "\x00", "a{", "A}", `"`, "A-",
		"program", "parent", "builtin", "Program", "PARENT", "programs", "file", "builtin ", "path", long[:32], long, strings.ToLower(long[:32]), strings.ToLower(long),
	}
}

// someOps are ops, and numbers that are none.
func someOps() []int {
	return []int{0, 1, 2, 3, 4, 5, 6, 7, 8, -1, -2, 61, 64, 65, 67, math.MaxInt, math.MinInt, math.MinInt + 1}
}

// P10.1, P10.3: every key with every name, op and value.
func TestTheTable(t *testing.T) {
	kinds := samples()
	met := map[api.Errno]int{}
	for key := -1; key <= 26; key++ {
		for _, name := range someNames() {
			for _, op := range someOps() {
				for value := range kinds {
					met[termsAgree(t, []api.Term{term(key, name, op, value)}, kinds)]++
				}
			}
		}
	}
	enough(t, met, 100, api.OK, api.ErrGrammarKey, api.ErrGrammarName, api.ErrGrammarOp, api.ErrGrammarValue, api.ErrLexerForm)
}

// P10.1: The table is the one of api: each key once, with its number and its ops.
func TestKeysAndOps(t *testing.T) {
	written := []string{
		api.KeyAction: "ACTION", api.KeyKernel: "KERNEL", api.KeySubsystem: "SUBSYSTEM", api.KeyDriver: "DRIVER", api.KeyAttr: "ATTR", api.KeyEnv: "ENV",
		api.KeyTag: "TAG", api.KeyKernels: "KERNELS", api.KeySubsystems: "SUBSYSTEMS", api.KeyDrivers: "DRIVERS", api.KeyAttrs: "ATTRS", api.KeyProgram: "PROGRAM",
		api.KeyResult: "RESULT", api.KeyImport: "IMPORT", api.KeyName: "NAME", api.KeySymlink: "SYMLINK", api.KeyOwner: "OWNER", api.KeyGroup: "GROUP",
		api.KeyMode: "MODE", api.KeyRun: "RUN", api.KeyLoad: "LOAD", api.KeyPriority: "PRIORITY", api.KeyLabel: "LABEL", api.KeyGoto: "GOTO",
	}
	ops := map[string]int{"==": api.OpIs, "!=": api.OpIsNot, "=": api.OpAssign, "+=": api.OpMore, "-=": api.OpLess, ":=": api.OpFinal}
	right := 0
	for key, text := range written {
		if key == 0 {
			continue
		}
		base := one(key)
		for opText, op := range ops {
			want := term(key, base.Name, op, base.Value)
			line := text + "{" + base.Name + "}" + opText + `"1"`
			line = strings.Replace(line, "{}", "", 1)
			got, err := grammar.Parse(line)
			switch {
			case err == api.OK && slices.Equal(got, []api.Term{want}):
				right++
			case err != api.ErrGrammarOp:
				t.Errorf("Parse(%q): got %+v and %d", line, got, err)
			}
		}
	}
	// Two for each of the 14 keys of matches, and 24 of assignments.
	if right != 2*14+24 {
		t.Errorf("%d keys with ops are right", right)
	}
	for _, key := range []int{0, -1, 25, 26, 64, 256, math.MaxInt, math.MinInt} {
		checkIs(t, api.ErrGrammarKey, term(key, "", api.OpIs, "1"))
		checkIs(t, api.ErrGrammarKey, term(key, "", api.OpAssign, ""))
	}
}

// P10.1: bytes of names of ATTR and ENV, first, last and inside.
func TestBytesOfNames(t *testing.T) {
	for b := range 256 {
		s := string([]byte{byte(b)})
		for i, n := range []string{s + "A", "A" + s, "A" + s + "A"} {
			attr, env := api.ErrGrammarName, api.ErrGrammarName
			if strings.Contains("ABCDEFGHIJKLMNOPQRSTUVWXYZabcdefghijklmnopqrstuvwxyz0123456789_.:+-!", s) {
				attr = api.OK
			}
			if 'A' <= b && b <= 'Z' || i > 0 && strings.Contains("0123456789_", s) {
				env = api.OK
			}
			checkIs(t, attr, term(api.KeyAttr, n, api.OpIs, ""))
			checkIs(t, attr, term(api.KeyAttrs, n, api.OpIsNot, ""))
			checkIs(t, env, term(api.KeyEnv, n, api.OpIs, ""))
			checkIs(t, env, term(api.KeyEnv, n, api.OpMore, ""))
			checkIs(t, api.ErrGrammarName, term(api.KeyTag, n, api.OpMore, "a"))
			checkIs(t, api.ErrGrammarName, term(api.KeyImport, n, api.OpIs, "net"))
		}
	}
}

// P10.1: all numbers that priorities have, some that they have not, and other ways to write them.
func TestPriorities(t *testing.T) {
	digits := "0123456789"
	for n := -1100; n <= 1100; n++ {
		s := ""
		for rest := max(n, -n); rest > 0; rest /= 10 {
			s = digits[rest%10:rest%10+1] + s
		}
		if n == 0 {
			s = "0"
		}
		want := api.OK
		if n < -1000 || n > 1000 {
			want = api.ErrGrammarValue
		}
		minus := ""
		if n < 0 {
			minus = "-"
		}
		checkIs(t, want, term(api.KeyPriority, "", api.OpAssign, minus+s))
		for _, wrong := range []string{"+" + s, "0" + s, minus + "0" + s, minus + s + " ", " " + minus + s, minus + s + ".", "--" + s, minus + s + "\n", minus + s + "a"} {
			checkIs(t, api.ErrGrammarValue, term(api.KeyPriority, "", api.OpAssign, wrong))
		}
	}
	for _, wrong := range []string{"", "-", "+", "-0", "a", "%n", "4294967296", "18446744073709551616", "-18446744073709551616", "0x10", "1e1", "1_0", "٣", strings.Repeat("9", 1<<20)} {
		checkIs(t, api.ErrGrammarValue, term(api.KeyPriority, "", api.OpAssign, wrong))
	}
}

// P10.1: how many terms there are.
func TestNumbersOfTerms(t *testing.T) {
	checkIs(t, api.ErrGrammarEmpty)
	checkIs(t, api.ErrGrammarEmpty, []api.Term{}...)
	for n := 1; n <= 40; n++ {
		l := slices.Repeat([]api.Term{one(api.KeyTag)}, n)
		want := api.OK
		if n > 16 {
			want = api.ErrGrammarLimit
		}
		checkIs(t, want, l...)
		for i := range l {
			wrong := slices.Clone(l)
			wrong[i].Key = 0
			if want == api.OK {
				checkIs(t, api.ErrGrammarKey, wrong...)
			} else {
				checkIs(t, api.ErrGrammarLimit, wrong...)
			}
		}
	}
	checkIs(t, api.ErrGrammarLimit, slices.Repeat([]api.Term{one(api.KeyLabel)}, 17)...)
	if err := grammar.Check(make([]api.Term, 1<<20)); err != api.ErrGrammarLimit {
		t.Errorf("Check of very many terms: got %d", err)
	}
}

// flaws are wrong terms with their errors.
func flaws() map[api.Errno][]api.Term {
	return map[api.Errno][]api.Term{
		api.ErrGrammarKey:   {{}, term(25, "", api.OpIs, ""), term(0, "/", 0, "["), term(-1, "", api.OpAssign, "$")},
		api.ErrGrammarName:  {term(api.KeyKernel, "a", api.OpIs, ""), term(api.KeyKernel, "a", 0, "["), term(api.KeyEnv, "a", api.OpFinal, ""), term(api.KeyImport, "", api.OpAssign, "["), term(api.KeyLabel, "a", api.OpAssign, "a")},
		api.ErrGrammarOp:    {term(api.KeyKernel, "", api.OpAssign, ""), term(api.KeyKernel, "", 0, "["), term(api.KeyName, "", api.OpIs, "$"), term(api.KeyLabel, "", api.OpMore, ""), term(api.KeyGoto, "", 7, "a")},
		api.ErrGrammarValue: {term(api.KeyKernel, "", api.OpIs, "["), term(api.KeyName, "", api.OpAssign, "$"), term(api.KeyLabel, "", api.OpAssign, ""), term(api.KeyGoto, "", api.OpAssign, "a b"), term(api.KeyImport, "builtin", api.OpIs, "usb")},
	}
}

// P10.1: of several wrong terms the first one counts, and a second LABEL or GOTO only where all terms are right.
func TestFirstWrongTerm(t *testing.T) {
	good, label, goTo := one(api.KeyRun), one(api.KeyLabel), one(api.KeyGoto)
	for first, list := range flaws() {
		for _, x := range list {
			checkIs(t, first, x)
			checkIs(t, first, good, x, good)
			checkIs(t, first, label, label, goTo, goTo, x)
			checkIs(t, first, x, label, label)
			for _, others := range flaws() {
				for _, y := range others {
					checkIs(t, first, x, y)
					checkIs(t, first, good, x, good, y, good)
				}
			}
		}
	}
}

// P10.1: a second LABEL and a second GOTO at any two places, with equal values or not.
func TestTwice(t *testing.T) {
	for n := 2; n <= 16; n++ {
		for i := range n {
			for j := range i {
				for _, keys := range [][2]int{{api.KeyLabel, api.KeyLabel}, {api.KeyGoto, api.KeyGoto}, {api.KeyLabel, api.KeyGoto}, {api.KeyGoto, api.KeyLabel}, {api.KeyName, api.KeyName}} {
					l := slices.Repeat([]api.Term{one(api.KeyTag)}, n)
					l[i], l[j] = one(keys[0]), one(keys[1])
					want := api.OK
					if keys[0] == keys[1] && keys[0] != api.KeyName {
						want = api.ErrGrammarTwice
					}
					checkIs(t, want, l...)
					l[i].Value = "other"
					checkIs(t, want, l...)
				}
			}
		}
	}
	// Every other key may come often.
	for key := api.KeyAction; key < api.KeyLabel; key++ {
		checkIs(t, api.OK, one(key), one(api.KeyLabel), one(key), one(api.KeyGoto), one(key))
	}
}

// P10.3: Match looks at the op alone.
func TestMatch(t *testing.T) {
	for key := -1; key <= 26; key++ {
		for _, op := range someOps() {
			for _, x := range []api.Term{term(key, "", op, ""), term(key, "a", op, "[")} {
				if got, want := grammar.Match(x), op == api.OpIs || op == api.OpIsNot; got != want {
					t.Errorf("Match(%+v): got %v, want %v", x, got, want)
				}
			}
		}
	}
}

// R4: Check, Format and Match leave their arguments as they are, and the room behind them.
func TestTermsStay(t *testing.T) {
	room := []api.Term{one(api.KeyKernel), one(api.KeyTag), one(api.KeyGoto), term(0, "spare", 0, "spare")}
	before := slices.Clone(room)
	grammar.Check(room[:3])
	grammar.Format(room[:3])
	grammar.Format(room)
	if !slices.Equal(room, before) {
		t.Errorf("terms changed into %+v", room)
	}
}
