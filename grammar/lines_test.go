package grammar_test

import (
	"maps"
	"math/rand"
	"slices"
	"strings"
	"testing"

	"coldplug/api"
	"coldplug/grammar"
)

// parseIs checks the terms of a line.
func parseIs(t *testing.T, s string, want ...api.Term) {
	t.Helper()
	if got, err := grammar.Parse(s); !slices.Equal(got, want) || err != api.OK {
		t.Errorf("Parse(%q): got %+v and %d, want %+v", s, got, err, want)
	}
}

// refuses checks the error of a line.
func refuses(t *testing.T, s string, want api.Errno) {
	t.Helper()
	if got, err := grammar.Parse(s); got != nil || err != want {
		t.Errorf("Parse(%q): got %+v and %d, want %d", s, got, err, want)
	}
}

// formatIs checks the line of terms and the error.
func formatIs(t *testing.T, want string, err api.Errno, l ...api.Term) {
	t.Helper()
	if got, e := grammar.Format(l); got != want || e != err {
		t.Errorf("Format(%+v): got %q and %d, want %q and %d", l, got, e, want, err)
	}
}

// P10.2: the chapter's examples.
func TestExamples(t *testing.T) {
	parseIs(t, `SUBSYSTEM=="block", SYMLINK+="disk/%k"`, term(api.KeySubsystem, "", api.OpIs, "block"), term(api.KeySymlink, "", api.OpMore, "disk/%k"))
	refuses(t, `KERNEL="sda"`, api.ErrGrammarOp)
	refuses(t, `ENV=="1"`, api.ErrGrammarName)
	refuses(t, `ATTR{}=="1"`, api.ErrLexerForm)
	refuses(t, `NAME+="x"`, api.ErrGrammarOp)
	refuses(t, `PRIORITY="007"`, api.ErrGrammarValue)
	refuses(t, `IMPORT{builtin}=="usb"`, api.ErrGrammarValue)
	refuses(t, `NAME="$x"`, api.ErrGrammarValue)
	refuses(t, `,`, api.ErrGrammarEmpty)
}

// P10.2: one term for each token, in order, whatever separates them.
func TestParse(t *testing.T) {
	a, b := term(api.KeyAttr, "x.y", api.OpIsNot, `a"b, \c`), term(api.KeyEnv, "K_1", api.OpMore, "$env{K} {}")
	const first, second = `ATTR{x.y}!="a\"b, \c"`, `ENV{K_1}+="$env{K} {}"`
	parseIs(t, first, a)
	parseIs(t, second, b)
	for _, s := range []string{" ", "\t", ",", ", ", ",,\t "} {
		parseIs(t, first+s+second, a, b)
		parseIs(t, s+second+s+first+s+second+s, b, a, b)
		refuses(t, s, api.ErrGrammarEmpty)
	}
	refuses(t, "", api.ErrGrammarEmpty)
	// The line is not read as a comment: that is a matter of whole files.
	refuses(t, "# ACTION", api.ErrLexerForm)
}

// P10.2: keys are written as in the table and in no other way.
func TestWrittenKeys(t *testing.T) {
	known := map[string]bool{}
	for _, r := range rows {
		known[r.written] = true
	}
	if len(known) != 24 {
		t.Fatalf("%d keys are written", len(known))
	}
	for _, key := range slices.Collect(maps.Keys(known)) {
		for n := range len(key) {
			for _, s := range []string{key[:n], key[n:], key[:n] + key[n+1:], key[:n] + key[n:n+1] + key[n:], key + key, key + "S", key + "X", "X" + key, key + "A"} {
				if s != "" && !known[s] {
					refuses(t, s+`=="1"`, api.ErrGrammarKey)
					refuses(t, s+`{K}="["`, api.ErrGrammarKey)
				}
			}
			refuses(t, key[:n]+strings.ToLower(key[n:n+1])+key[n+1:]+`=="1"`, api.ErrLexerForm)
		}
	}
}

// P10.2: the errors of tokens come ahead of those of terms, wherever they are.
func TestOrderOfParseErrors(t *testing.T) {
	wrong := []string{`FOO="x"`, `ENV=""`, `KERNEL="a"`, `KERNEL=="["`, `LABEL="a" LABEL="b"`, strings.Repeat(`TAG="a",`, 17), `,`}
	for _, s := range wrong {
		refuses(t, s+` a="b"`, api.ErrLexerForm)
		refuses(t, `a="b" `+s, api.ErrLexerForm)
		refuses(t, s+` A="b`, api.ErrLexerOpen)
		refuses(t, s+"\x7f", api.ErrLexerByte)
		refuses(t, s+strings.Repeat(" ", api.MaxLine), api.ErrLexerLimit)
	}
	// Of the terms, what is wrong with their number comes ahead of what is wrong with one of them, and both ahead of a second LABEL.
	refuses(t, strings.Repeat(`FOO="a",`, 17), api.ErrGrammarLimit)
	refuses(t, strings.Repeat(`LABEL="a",`, 17), api.ErrGrammarLimit)
	refuses(t, strings.Repeat(`LABEL="a",`, 16), api.ErrGrammarTwice)
	refuses(t, strings.Repeat(`LABEL="a",`, 15)+`FOO="a"`, api.ErrGrammarKey)
	refuses(t, `FOO{a}="[", ENV=""`, api.ErrGrammarKey)
	refuses(t, `ENV:="[$", FOO=""`, api.ErrGrammarName)
	refuses(t, `ENV{K}:="$", ENV=""`, api.ErrGrammarOp)
	refuses(t, `ENV{K}="$", ENV{K}:=""`, api.ErrGrammarValue)
}

// P10.2: the greatest number of terms, and the longest line.
func TestLongLines(t *testing.T) {
	a := term(api.KeyTag, "", api.OpLess, "a")
	parseIs(t, strings.Repeat(`TAG-="a",`, 16), slices.Repeat([]api.Term{a}, 16)...)
	refuses(t, strings.Repeat(`TAG-="a",`, 17), api.ErrGrammarLimit)
	spaces := strings.Repeat(" ", api.MaxLine-len(`TAG-="a"`))
	parseIs(t, `TAG-="a"`+spaces, a)
	parseIs(t, spaces+`TAG-="a"`, a)
	refuses(t, spaces+`TAG-="a" `, api.ErrLexerLimit)
	refuses(t, strings.Repeat(" ", 1<<20), api.ErrLexerLimit)
	// A value may have 256 bytes; a quote is one, though it is written as two.
	parseIs(t, `TAG="`+strings.Repeat(`\"`, 256)+`"`, term(api.KeyTag, "", api.OpAssign, strings.Repeat(`"`, 256)))
	refuses(t, `TAG="`+strings.Repeat(`\"`, 257)+`"`, api.ErrGrammarValue)
	refuses(t, `TAG=="`+strings.Repeat(`a`, 257)+`"`, api.ErrGrammarValue)
}

// P10.3: the form of lines.
func TestFormat(t *testing.T) {
	a, b, c := term(api.KeyImport, "parent", api.OpIsNot, "A*|B?"), term(api.KeyRun, "", api.OpFinal, `say "$name" \x`), term(api.KeyLoad, "", api.OpMore, "")
	formatIs(t, `IMPORT{parent}!="A*|B?"`, api.OK, a)
	formatIs(t, `IMPORT{parent}!="A*|B?", RUN:="say \"$name\" \x", LOAD+=""`, api.OK, a, b, c)
	formatIs(t, `LOAD+="", RUN:="say \"$name\" \x", LOAD+=""`, api.OK, c, b, c)
	formatIs(t, "", api.ErrGrammarEmpty)
	for want, list := range flaws() {
		for _, x := range list {
			formatIs(t, "", want, x)
			formatIs(t, "", want, a, x, b)
		}
	}
}

// P10.3: what the lexer can not write, behind the errors of Check.
func TestFormatOfWhatCanNotBeWritten(t *testing.T) {
	slash := term(api.KeyKernel, "", api.OpIs, `a\`)
	long := term(api.KeyRun, "", api.OpMore, strings.Repeat("a", 256))
	label := one(api.KeyLabel)
	checkIs(t, api.OK, slash)
	formatIs(t, "", api.ErrLexerForm, slash)
	formatIs(t, "", api.ErrLexerForm, one(api.KeyTag), slash, one(api.KeyTag))
	formatIs(t, "", api.ErrLexerForm, long, long, long, long, slash)
	formatIs(t, "", api.ErrLexerLimit, long, long, long, long)
	formatIs(t, "", api.ErrGrammarTwice, long, long, long, long, slash, label, label)
	formatIs(t, "", api.ErrGrammarKey, long, long, long, long, slash, term(0, "", 0, ""))
	formatIs(t, "", api.ErrGrammarLimit, slices.Repeat([]api.Term{slash}, 17)...)
	checkIs(t, api.OK, slices.Repeat([]api.Term{long}, 16)...)
	// Exactly as long as a line may be, and one byte more.
	line := strings.Repeat(`RUN+="`+strings.Repeat("a", 256)+`", `, 3)
	for n := 215; n <= 225; n++ {
		last := term(api.KeyRun, "", api.OpMore, strings.Repeat("b", n))
		want := line + `RUN+="` + last.Value + `"`
		if len(want) <= 1024 {
			formatIs(t, want, api.OK, long, long, long, last)
			parseIs(t, want, long, long, long, last)
		} else {
			formatIs(t, "", api.ErrLexerLimit, long, long, long, last)
			refuses(t, want, api.ErrLexerLimit)
		}
	}
}

// madeTerm returns a random right term.
func madeTerm(random *rand.Rand, kinds map[string][]string, values []string) api.Term {
	for {
		r := rows[random.Intn(len(rows))]
		x := term(r.key, r.name, r.ops[random.Intn(len(r.ops))], values[random.Intn(len(values))])
		if r.name == "a name" || r.name == "a key" {
			x.Name = []string{"K", "ID_2", "AB"}[random.Intn(3)]
		}
		if slices.Contains(kinds[x.Value], r.values) {
			return x
		}
	}
}

// P10.1, P10.3 and the chapter's consequences: random terms, some of them with a flaw, and the way back.
func TestRandomTerms(t *testing.T) {
	random := rand.New(rand.NewSource(10))
	kinds := samples()
	// Long values often enough for lines that are too long.
	values := append(slices.Sorted(maps.Keys(kinds)), slices.Repeat([]string{strings.Repeat("a", api.MaxText)}, 30)...)
	met := map[api.Errno]int{}
	for range 30000 {
		var list []api.Term
		for range random.Intn(19) {
			list = append(list, madeTerm(random, kinds, values))
		}
		if len(list) > 0 && random.Intn(3) == 0 {
			spoil := &list[random.Intn(len(list))]
			switch random.Intn(4) {
			case 0:
				spoil.Key = random.Intn(28) - 1
			case 1:
				spoil.Name = someNames()[random.Intn(len(someNames()))]
			case 2:
				spoil.Op = someOps()[random.Intn(len(someOps()))]
			case 3:
				spoil.Value = values[random.Intn(len(values))]
			}
		}
		met[termsAgree(t, list, kinds)]++
	}
	enough(t, met, 100, api.OK, api.ErrGrammarEmpty, api.ErrGrammarLimit, api.ErrGrammarKey, api.ErrGrammarName, api.ErrGrammarOp, api.ErrGrammarValue, api.ErrGrammarTwice, api.ErrLexerForm, api.ErrLexerLimit)
}

// P10.2: lines of random tokens, right and wrong ones, with a byte left out now and then.
func TestRandomLines(t *testing.T) {
	random := rand.New(rand.NewSource(20))
	kinds := samples()
	values := slices.Sorted(maps.Keys(kinds))
	separators := []string{" ", ",", "\t", ", ", ",, "}
	met := map[api.Errno]int{}
	for range 50000 {
		s := ""
		for range random.Intn(4) {
			x := madeTerm(random, kinds, values)
			if random.Intn(4) == 0 {
				x.Op = 1 + random.Intn(6)
			}
			text := textOf(x)
			if random.Intn(8) == 0 {
				text = writtenOf(1+random.Intn(24)) + strings.TrimLeft(text, "ABCDEFGHIJKLMNOPQRSTUVWXYZ")
			}
			if random.Intn(20) == 0 {
				// Only in the KEY or the NAME, so that the value stays one of the samples.
				at := random.Intn(strings.IndexByte(text, '"'))
				text = text[:at] + text[at+1:]
			}
			s += text + separators[random.Intn(len(separators))]
		}
		met[lineAgrees(t, s, kinds)]++
	}
	enough(t, met, 100, api.OK, api.ErrGrammarEmpty, api.ErrGrammarKey, api.ErrGrammarName, api.ErrGrammarOp, api.ErrGrammarValue, api.ErrLexerForm)
}

// R4: the terms of a line are new each time.
func TestTermsAreNew(t *testing.T) {
	const line = `TAG="a", RUN+="b", GOTO="c"`
	first, _ := grammar.Parse(line)
	for i := range first[:cap(first)] {
		first[:cap(first)][i] = term(0, "spoilt", 0, "")
	}
	parseIs(t, line, term(api.KeyTag, "", api.OpAssign, "a"), term(api.KeyRun, "", api.OpMore, "b"), term(api.KeyGoto, "", api.OpAssign, "c"))
}
