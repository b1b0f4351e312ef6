package evaluate_test

import (
	"slices"
	"strings"
	"testing"

	"coldplug/api"
	"coldplug/evaluate"
)

// PROGRAM: == holds without an error and != with one; the result is the output or empty, and calls and ticks grow in any case.
func TestProgram(t *testing.T) {
	for _, x := range []struct {
		command string
		ok      bool
		ticks   int
		result  string
	}{
		{"say one", true, 1, "one"},
		{"say $kernel", true, 2, "more  words than one"},
		{"empty", true, 5, ""},
		{"items", true, 4, "A=1;B=two words;c=3;D=;DRIVER=none;A=2"},
		{"bad", false, 3, ""},
		{"bad one", false, 3, ""},
		{"slow", false, 10, ""},
		{"none", false, 0, ""},
		{"", false, 0, ""},
	} {
		for op, want := range map[string]bool{"==": x.ok, "!=": !x.ok} {
			line := `PROGRAM` + op + `"` + x.command + `"`
			holds(t, want, disk, line)
			d := draftOf(t, disk, line)
			ranAre(t, d, 1, x.ticks, x.result)
			propsAre(t, d)
			d = draftOf(t, disk, `PROGRAM=="say before"`, line+`, TAG+="t"`)
			ranAre(t, d, 2, 2+x.ticks, x.result)
			if slices.Contains(d.Tags, "t") != want {
				t.Errorf("%s: the tags are %q", line, d.Tags)
			}
		}
	}
}

// The result stays for the rules behind, until the next PROGRAM.
func TestResultStays(t *testing.T) {
	propsAre(t, draftOf(t, disk, `PROGRAM=="say one"`, `KERNEL=="none", PROGRAM=="say two"`, `ENV{A}="%c"`, `PROGRAM=="say two", KERNEL=="none"`, `ENV{B}="%c{2}"`, `PROGRAM=="bad"`, `ENV{C}="<%c>"`),
		"A", "one", "B", "words", "C", "<>")
}

// IMPORT{program}: the items of the output are imported if there was no error, whichever op it has; the result stays.
func TestImportProgram(t *testing.T) {
	imported := []string{"A", "2", "B", "two words"}
	for _, x := range []struct {
		command string
		ok      bool
		ticks   int
		props   []string
	}{
		{"items", true, 4, imported},
		{"say one", true, 1, nil},
		{"empty", true, 5, nil},
		{"bad", false, 3, nil},
		{"slow", false, 10, nil},
		{"none", false, 0, nil},
	} {
		for op, want := range map[string]bool{"==": x.ok, "!=": !x.ok} {
			line := `IMPORT{program}` + op + `"` + x.command + `"`
			holds(t, want, disk, line)
			d := draftOf(t, disk, line)
			ranAre(t, d, 1, x.ticks, "")
			propsAre(t, d, x.props...)
			d = draftOf(t, disk, `PROGRAM=="say one"`, line)
			ranAre(t, d, 2, 1+x.ticks, "one")
			propsAre(t, d, x.props...)
		}
	}
}

// Commands are expanded, with what is known at that moment.
func TestExpandedCommands(t *testing.T) {
	in := input(disk)
	in.Helpers = []api.Helper{{Command: "k=c0!d0 n=0", Output: "K=1"}, {Command: "c=K=1 e=", Output: "C=2"}, {Command: "e=2", Output: "E=3"}, {Command: "$k", Output: "no"}}
	commands := `PROGRAM=="k=$kernel n=%n", PROGRAM=="c=%c e=$env{C}", IMPORT{program}=="c=K=1 e=$env{C}"`
	got, err := evaluate.Held(rulesOf(t, commands, `PROGRAM=="c=K=1 e=$env{C}"`, `IMPORT{program}=="e=$env{C}"`, `IMPORT{program}=="%c{1}"`, `PROGRAM=="$$k"`), in)
	if err != api.OK || !slices.Equal(got, []int{0, 2, 4}) {
		t.Errorf("%v held", got)
	}
	d, err := evaluate.Draft(rulesOf(t, commands+`, PROGRAM=="e=$env{C}", ENV{R}="%c"`), in)
	if err != api.OK {
		t.Error(err)
	}
	propsAre(t, d, "C", "2", "R", "E=3")
	ranAre(t, d, 4, 0, "E=3")
}

// A command is cut after MaxText bytes, as every expanded text is.
func TestLongCommand(t *testing.T) {
	in := input(disk)
	in.Helpers = []api.Helper{{Command: strings.Repeat("x", 256), Output: "cut"}, {Command: "*", Output: "not cut"}}
	long := strings.Repeat("x", 200)
	d, err := evaluate.Draft(rulesOf(t, `ENV{X}="`+long+`"`, `PROGRAM=="$env{X}$env{X}", ENV{Y}="%c"`), in)
	if err != api.OK {
		t.Error(err)
	}
	propsAre(t, d, "X", long, "Y", "cut")
}

// The chapter's consequences: no more than MaxCalls helpers are called, whether PROGRAM or IMPORT{program} calls them and whether they fail or not; the number of calls goes on growing.
func TestMostCalls(t *testing.T) {
	for _, one := range []string{`PROGRAM=="say one"`, `PROGRAM!="say one"`, `PROGRAM!="bad"`, `PROGRAM=="none"`, `IMPORT{program}=="empty"`, `IMPORT{program}!="slow"`} {
		ticks := draftOf(t, disk, one).Ticks
		for calls := range 20 {
			lines := slices.Repeat([]string{one}, calls)
			d := draftOf(t, disk, lines...)
			if d.Calls != calls || d.Ticks != ticks*min(calls, 16) {
				t.Errorf("%s, %d times: %d calls and %d ticks", one, calls, d.Calls, d.Ticks)
			}
			lines = append(lines, `IMPORT{program}!="items", TAG+="a"`, `PROGRAM=="say one", TAG+="b"`, `PROGRAM!="say one", TAG+="c"`, `ENV{R}="<%c>"`)
			d = draftOf(t, disk, lines...)
			switch {
			case calls <= 13:
				propsAre(t, d, "A", "2", "B", "two words", "R", "<one>")
				listIs(t, "tags", d.Tags, "b")
			case calls == 14:
				propsAre(t, d, "A", "2", "B", "two words", "R", "<>")
				listIs(t, "tags", d.Tags, "b", "c")
			case calls == 15:
				propsAre(t, d, "A", "2", "B", "two words", "R", "<>")
				listIs(t, "tags", d.Tags, "c")
			default:
				propsAre(t, d, "R", "<>")
				listIs(t, "tags", d.Tags, "a", "c")
			}
		}
	}
}

// The limit of the input counts, and the first helper that matches.
func TestLimit(t *testing.T) {
	for limit, want := range map[int]string{1: "one", 10: "one", 11: "one", 1000: "one"} {
		in := input(disk)
		in.Limit = limit
		d, err := evaluate.Draft(rulesOf(t, `PROGRAM=="slow", TAG+="slow"`, `PROGRAM=="say one"`), in)
		if err != api.OK {
			t.Error(err)
		}
		ranAre(t, d, 2, min(limit, 11)+1, want)
		if slices.Contains(d.Tags, "slow") != (limit >= 11) {
			t.Errorf("the limit %d: the tags are %q", limit, d.Tags)
		}
	}
}
