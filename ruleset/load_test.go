package ruleset_test

import (
	"reflect"
	"slices"
	"strings"
	"testing"

	"coldplug/api"
	"coldplug/grammar"
	"coldplug/ruleset"
)

const tag = "TAG+=\"a\"\n"

// places returns places in a file with these lines.
func places(name string, lines ...int) []api.Fault { return faultsAt(name, api.OK, lines...) }

// faultsAt returns faults of a file with these lines and one error.
func faultsAt(name string, err api.Errno, lines ...int) []api.Fault {
	var l []api.Fault
	for _, n := range lines {
		l = append(l, fault(name, n, err))
	}
	return l
}

// upTo returns the numbers from one number to another one, both included.
func upTo(first, last int) []int {
	var l []int
	for n := first; n <= last; n++ {
		l = append(l, n)
	}
	return l
}

// P17.3: the rules are those of the files, with their terms, in the order of the files.
func TestLoad(t *testing.T) {
	files := dir("b", "TAG=\"x\", \\\n RUN+=\"y\"\n\nKERNEL==\"sda\"\n", "c", "", "d", "# nothing\n", "a", "NAME=\"lan%n\"")
	want := []api.Rule{
		{File: "b", Line: 1, Terms: []api.Term{{Key: api.KeyTag, Op: api.OpAssign, Value: "x"}, {Key: api.KeyRun, Op: api.OpMore, Value: "y"}}},
		{File: "b", Line: 4, Terms: []api.Term{{Key: api.KeyKernel, Op: api.OpIs, Value: "sda"}}},
		{File: "a", Line: 1, Terms: []api.Term{{Key: api.KeyName, Op: api.OpAssign, Value: "lan%n"}}},
	}
	if rules, faults := ruleset.Load(files); !sameRules(rules, want) || len(faults) > 0 {
		t.Errorf("got %+v and %+v, want %+v", rules, faults, want)
	}
	loadedAre(t, nil, nil)
	loadedAre(t, nil, nil, dir("a", "", "b", "\n#\n \t")...)
}

// P17.3: the faults of the Scripts come first, file by file, then those of Link.
func TestLoadFaults(t *testing.T) {
	files := dir(
		"1", "GOTO=\"no\"\nFOO=\"x\"\nTAG=\"$x\"\n"+tag,
		"2", tag+"KERNEL=\"a\"\nGOTO=\"none\"\n",
		"0", "\n,\n"+tag)
	loadedAre(t,
		[]api.Fault{fault("1", 4, 0), fault("2", 1, 0), fault("0", 3, 0)},
		[]api.Fault{fault("1", 2, api.ErrGrammarKey), fault("1", 3, api.ErrGrammarValue), fault("2", 2, api.ErrGrammarOp), fault("0", 2, api.ErrGrammarEmpty), fault("1", 1, api.ErrGrammarLabel), fault("2", 3, api.ErrGrammarLabel)},
		files...)
}

// P17.3: Link is done with the rules of all files together.
func TestLoadLinks(t *testing.T) {
	from, to := file("a", "GOTO=\"end\"\n"), file("b", tag+"LABEL=\"end\"\n")
	loadedAre(t, append(places("a", 1), places("b", 1, 2)...), nil, from, to)
	loadedAre(t, places("b", 1, 2), faultsAt("a", api.ErrGrammarLabel, 1), to, from)
	loadedAre(t, append(places("a", 1), places("b", 1, 2)...), nil, from, file("c", ""), file("d", "#"), to)
	loadedAre(t, append(places("b", 1, 2), append(places("a", 1), places("b", 1, 2)...)...), nil, to, from, to)
	// What is left out takes its label along, also from another file.
	loadedAre(t, places("c", 1), []api.Fault{fault("a", 1, 107), fault("b", 1, 107)}, from, file("b", "LABEL=\"end\", GOTO=\"no\""), file("c", "LABEL=\"last\""))
	// A line that is refused has no label.
	loadedAre(t, nil, []api.Fault{fault("b", 1, api.ErrGrammarOp), fault("a", 1, api.ErrGrammarLabel)}, from, file("b", "LABEL=\"end\", NAME+=\"x\""))
}

// P17.3: files are read as they are given: with equal Names, with Names that are none, and with the same file twice.
func TestLoadAnyFiles(t *testing.T) {
	for _, n := range []string{"", "a/b", "..", "\xff", strings.Repeat("n", 300)} {
		loadedAre(t, places(n, 1, 1, 3), faultsAt(n, api.ErrGrammarEmpty, 2, 2), dir(n, tag+",", n, tag+",\n"+tag)...)
	}
	loadedAre(t, slices.Concat(places("f0", 1), places("f1", 1), places("f10", 1), places("f2", 1)), nil, dir("f0", tag, "f1", tag, "f10", tag, "f2", tag)...)
	if rules, faults := ruleset.Load(numbered(0, api.MaxFiles+1, tag)); len(rules) != api.MaxFiles+1 || len(faults) > 0 {
		t.Errorf("more files than a rule set has: %d rules and %d faults", len(rules), len(faults))
	}
}

// P17.3: rules beyond the first 512 are left out, each with a fault.
func TestLoadLimit(t *testing.T) {
	for _, n := range []int{511, 512, 513, 514, 700} {
		most := min(n, 512)
		loadedAre(t, places("a", upTo(1, most)...), faultsAt("a", api.ErrRulesetLimit, upTo(513, n)...), file("a", strings.Repeat(tag, n)))
	}
	// The limit is one of all files together, at whatever file it is reached.
	for _, n := range []int{0, 1, 256, 511, 512} {
		files := dir("b", strings.Repeat(tag, n), "c", "#", "a", strings.Repeat(tag, 514-n), "d", "\n"+tag)
		rules := slices.Concat(places("b", upTo(1, n)...), places("a", upTo(1, 512-n)...))
		faults := append(faultsAt("a", api.ErrRulesetLimit, 513-n, 514-n), fault("d", 2, api.ErrRulesetLimit))
		loadedAre(t, rules, faults, files...)
	}
	rules, faults := ruleset.Load(numbered(0, 100, strings.Repeat(tag, 100)))
	if len(rules) != 512 || len(faults) != 10000-512 || rules[511].File != "f5" || rules[511].Line != 12 || faults[0] != fault("f5", 13, api.ErrRulesetLimit) || faults[9487] != fault("f99", 100, api.ErrRulesetLimit) {
		t.Errorf("of many files: %d rules and %d faults", len(rules), len(faults))
	}
}

// P17.3: lines that are refused and blank ones are not numbered.
func TestLoadLimitCountsRules(t *testing.T) {
	text := strings.Repeat(tag+",\n#\n\n", 512)
	var lines, bad []int
	for n := range 512 {
		lines, bad = append(lines, 4*n+1), append(bad, 4*n+2)
	}
	loadedAre(t, places("a", lines...), faultsAt("a", api.ErrGrammarEmpty, bad...), file("a", text))
	loadedAre(t, places("a", lines...), slices.Concat(faultsAt("a", api.ErrGrammarEmpty, bad...), faultsAt("b", api.ErrGrammarEmpty, 2), faultsAt("b", api.ErrRulesetLimit, 1, 3)), file("a", text), file("b", tag+",\n"+tag))
}

// P17.3: rules that Link leaves out are numbered, so that none beyond the limit takes their place.
func TestLoadLimitComesBeforeLink(t *testing.T) {
	jump, label := "GOTO=\"x\"\n", "LABEL=\"x\"\n"
	loadedAre(t, places("a", upTo(2, 512)...), slices.Concat(faultsAt("b", api.ErrGrammarEmpty, 1), faultsAt("a", api.ErrRulesetLimit, 513), faultsAt("b", api.ErrRulesetLimit, 2), faultsAt("a", api.ErrGrammarLabel, 1)),
		file("a", jump+strings.Repeat(tag, 511)+tag), file("b", ",\n"+tag))
	// A label at the limit is there, one beyond it is not.
	loadedAre(t, places("a", upTo(1, 512)...), faultsAt("a", api.ErrRulesetLimit, 513), file("a", jump+strings.Repeat(tag, 510)+label+tag))
	loadedAre(t, places("a", upTo(2, 512)...), append(faultsAt("a", api.ErrRulesetLimit, 513), fault("a", 1, api.ErrGrammarLabel)), file("a", jump+strings.Repeat(tag, 511)+label))
	// A rule beyond the limit has one fault, also if its GOTO leads nowhere.
	loadedAre(t, places("a", upTo(1, 512)...), faultsAt("a", api.ErrRulesetLimit, 513), file("a", strings.Repeat(tag, 512)+jump))
	loadedAre(t, nil, append(faultsAt("a", api.ErrRulesetLimit, upTo(513, 600)...), faultsAt("a", api.ErrGrammarLabel, upTo(1, 512)...)...), file("a", strings.Repeat(jump, 600)))
}

// The chapter's consequences: the rules are valid, whatever the files say.
func TestLoadedRulesAreValid(t *testing.T) {
	line := []string{tag, "GOTO=\"x\"\n", "LABEL=\"x\", GOTO=\"y\"\n", "LABEL=\"y\"\n", "FOO\n", "TAG=\"%\"\n", "\xff\n", "A{\n", "LABEL=\"y\", LABEL=\"z\"\n", strings.Repeat(tag[:8]+",\\\n", 17) + "\n"}
	for i := range 2000 {
		files := dir("a", strings.Repeat(line[i%10]+line[i/10%10], 1+i%400), "b", line[i/100%10]+line[i%10])
		rules, _ := ruleset.Load(files)
		if len(rules) > api.MaxRules {
			t.Fatalf("%.100q: %d rules", files, len(rules))
		}
		for _, r := range rules {
			if err := grammar.Check(r.Terms); err != api.OK {
				t.Fatalf("%.100q: the rule %+v has the error %d", files, r, err)
			}
		}
		if again, faults := grammar.Link(rules); !sameRules(again, rules) || len(faults) > 0 {
			t.Fatalf("%.100q: Link leaves out %v", files, faults)
		}
	}
}

// R4: files stay as they are, and so does the room behind them; results are new, and no two rules share memory.
func TestLoadKeeps(t *testing.T) {
	files := roomy(dir("a", tag+"TAG+=\"b\", TAG+=\"c\"\n,\nGOTO=\"no\"", "b", strings.Repeat(tag, 600)), file("room", tag))
	whole := slices.Clone(files[:cap(files)])
	first, firstFaults := ruleset.Load(files)
	second, secondFaults := ruleset.Load(files)
	want, wantFaults := ruleset.Load(files)
	changed := api.Term{Key: api.KeyKernel, Op: api.OpIs, Value: "changed"}
	for i := range first {
		// From the first one on: what is changed must not reach the next one.
		if !reflect.DeepEqual(first[i], want[i]) {
			t.Fatalf("the rule %d became %+v with those before it", i, first[i])
		}
		spoil(first[i].Terms, changed)
	}
	spoil(first, api.Rule{File: "changed"})
	spoil(firstFaults, fault("changed", 1, 1))
	if !sameRules(second, want) || !slices.Equal(secondFaults, wantFaults) {
		t.Error("a change of one result changed another one")
	}
	if again, _ := ruleset.Load(files); !sameRules(again, want) || !slices.Equal(files[:cap(files)], whole) {
		t.Error("the files were changed")
	}
}
