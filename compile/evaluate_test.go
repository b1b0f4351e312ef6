package compile_test

import (
	"math"
	"reflect"
	"slices"
	"testing"

	"coldplug/api"
	"coldplug/compile"
	"coldplug/evaluate"
)

// evaluated returns the record of a device, and checks that it is what evaluate.Rules returns.
func evaluated(t *testing.T, index int, lines ...string) (api.Record, int) {
	t.Helper()
	l := rulesOf(t, lines...)
	sameAsRules(t, l, input(index))
	r, ticks, err := compile.New(l).Evaluate(input(index))
	if err != api.OK {
		t.Errorf("%q for %d: error %d", lines, index, err)
	}
	return r, ticks
}

// tagsAre checks the tags of the record of a device, and its ticks.
func tagsAre(t *testing.T, index int, lines []string, ticks int, want ...string) {
	t.Helper()
	if r, n := evaluated(t, index, lines...); !slices.Equal(r.Tags, want) || n != ticks {
		t.Errorf("%q for %d: the tags are %q with %d ticks, want %q with %d", lines, index, r.Tags, n, want, ticks)
	}
}

// P16.3: each device has the record that the rules that concern it decide.
func TestEvaluate(t *testing.T) {
	lines := []string{
		`SUBSYSTEM=="block", KERNEL=="sd*", SYMLINK+="disk/%k", TAG+="disk"`,
		`SUBSYSTEM=="net", NAME="lan%n", TAG+="net"`,
		`TAG=="disk|net", PROGRAM=="say %k", ENV{SAID}="%c", TAG+="asked"`,
		`SUBSYSTEMS=="usb", TAG+="usb"`,
	}
	tagsAre(t, disk, lines, 2, "asked", "disk")
	tagsAre(t, eth, lines, 2, "asked", "net", "usb")
	tagsAre(t, usb, lines, 0, "usb")
	tagsAre(t, pci, lines, 0)
	r, _ := evaluated(t, eth, lines...)
	if r.Name != "lan7" || r.Path != "/usb0/eth7" || r.Index != eth || !slices.Contains(r.Props, api.Attr{Name: "SAID", Value: "A=a;B=two words"}) {
		t.Errorf("the record of eth7 is %+v", r)
	}
	tagsAre(t, disk, nil, 0)
}

// P16.3: a GOTO leads to a rule that is no candidate; what stands between is passed over, and what stands behind is read.
func TestJumpToNoCandidate(t *testing.T) {
	lines := []string{
		`TAG+="first", GOTO="end"`,
		`TAG+="between"`,
		`LABEL="end", SUBSYSTEM=="none", TAG+="label"`,
		`TAG+="behind"`,
		`LABEL="end", TAG+="again"`,
	}
	tagsAre(t, disk, lines, 0, "again", "behind", "first")
	lines[2] = `LABEL="end", KERNEL!="*", TAG+="label"`
	tagsAre(t, eth, lines, 0, "again", "behind", "first")
	lines[2] = `LABEL="end", SUBSYSTEM=="net", TAG+="label"`
	tagsAre(t, eth, lines, 0, "again", "behind", "first", "label")
}

// P16.3: a GOTO of a rule that is no candidate leads nowhere, and a rule with a label that is no candidate does nothing.
func TestJumpFromNoCandidate(t *testing.T) {
	lines := []string{`SUBSYSTEM=="none", GOTO="end"`, `TAG+="between"`, `SUBSYSTEM=="block", LABEL="end", TAG+="label", GOTO="last"`, `TAG+="more"`, `LABEL="last"`}
	tagsAre(t, eth, lines, 0, "between", "more")
	tagsAre(t, disk, lines, 0, "between", "label")
}

// P16.3: what a candidate does that does not hold remains done: its helpers are called, and their results are seen.
func TestEffectsOfCandidates(t *testing.T) {
	tagsAre(t, disk, []string{`PROGRAM=="say x", SUBSYSTEM=="none"`, `RESULT=="A=a*", TAG+="seen"`}, 2, "seen")
	tagsAre(t, disk, []string{`IMPORT{program}=="say x", KERNEL=="none"`, `ENV{A}=="a", TAG+="seen"`}, 2, "seen")
	tagsAre(t, disk, []string{`IMPORT{builtin}=="content", DRIVER=="none"`, `ENV{ID_FS_UUID}=="u1", TAG+="seen"`}, 0, "seen")
	tagsAre(t, disk, []string{`IMPORT{parent}=="X", SUBSYSTEM=="none"`, `ENV{X}=="x", TAG+="seen"`}, 0, "seen")
	tagsAre(t, disk, []string{`SUBSYSTEM=="none", PROGRAM=="say x"`, `RESULT=="A=a*", TAG+="seen"`}, 0)
	tagsAre(t, disk, []string{`KERNEL=="sda", PROGRAM=="slow", TAG+="x"`, `PROGRAM!="bad", TAG+="seen"`}, 13, "seen")
}

// P16.3: calls are bounded as with all rules; rules that are no candidates call nothing.
func TestMostCalls(t *testing.T) {
	var lines []string
	for range 16 {
		lines = append(lines, `SUBSYSTEM=="none", PROGRAM=="say x"`, `PROGRAM=="say x"`)
	}
	tagsAre(t, disk, append(lines, `PROGRAM=="say x", TAG+="more"`, `RESULT=="", TAG+="last"`), 32, "last")
	tagsAre(t, disk, append(lines[:30:30], `PROGRAM=="say x", TAG+="more"`), 32, "more")
}

// P16.3: without a device there is no record.
func TestNoDevice(t *testing.T) {
	for _, l := range [][]api.Rule{nil, rulesOf(t, `TAG+="a"`, `SUBSYSTEM=="block"`)} {
		for _, index := range []int{0, 1, -7, 10, math.MaxInt, math.MinInt} {
			sameAsRules(t, l, input(index))
			r, ticks, err := compile.New(l).Evaluate(input(index))
			if !reflect.DeepEqual(r, api.Record{}) || ticks != 0 || err != api.ErrEvaluateNone {
				t.Errorf("%d: got %+v, %d, %d", index, r, ticks, err)
			}
		}
		in := input(disk)
		in.Tree = api.Tree{}
		if _, _, err := compile.New(l).Evaluate(in); err != api.ErrEvaluateNone {
			t.Errorf("the tree without devices: error %d", err)
		}
	}
}

// P16.3: rules of which none concerns a device leave it with what it has without rules.
func TestNoCandidates(t *testing.T) {
	got, _, _ := compile.New(rulesOf(t, `SUBSYSTEM=="net", TAG+="a"`, `KERNEL=="none", RUN+="a"`)).Evaluate(input(disk))
	want, _, _ := evaluate.Rules(nil, input(disk))
	if !reflect.DeepEqual(plainRecord(got), plainRecord(want)) {
		t.Errorf("got %+v, want %+v", got, want)
	}
}
