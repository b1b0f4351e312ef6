package evaluate_test

import (
	"math"
	"reflect"
	"slices"
	"testing"

	"coldplug/api"
	"coldplug/evaluate"
)

// exampleRules are the rules of the chapter's example.
func exampleRules(t *testing.T) []api.Rule {
	t.Helper()
	return rulesOf(t, `KERNEL=="sd*", PROGRAM=="probe %k", ENV{ID}="%c"`, `ENV{ID}!="", GOTO="end"`, `SYMLINK+="none"`, `LABEL="end", TAG+="seen"`)
}

// exampleInput is an input of the chapter's example.
func exampleInput(index int) api.Input {
	return api.Input{
		Action:  "add",
		Tree:    api.Tree{Devices: []api.Device{block(1, 0, "sda"), block(2, 0, "sdb")}},
		Index:   index,
		Helpers: []api.Helper{{Command: "probe sda", Output: "x", Ticks: 2}, {Command: "probe sdb", Output: "x", Fails: true, Ticks: 3}},
		Limit:   10,
	}
}

// The chapter's example: which rules held.
func TestExampleHeld(t *testing.T) {
	for index, want := range map[int][]int{1: {0, 1, 3}, 2: {2, 3}} {
		if got, err := evaluate.Held(exampleRules(t), exampleInput(index)); err != api.OK || !slices.Equal(got, want) {
			t.Errorf("%d: %v held, error %d, want %v", index, got, err, want)
		}
	}
}

// The chapter's example, and P15.1: all of the drafts and records.
func TestExampleResults(t *testing.T) {
	draft := func(name, path, number string) api.Draft {
		return api.Draft{Props: attrs("DEVNAME", name, "DEVPATH", path, "NUMBER", number, "SUBSYSTEM", "block"), Tags: []string{"seen"}, Owner: "root", Group: "root", Mode: 384, Calls: 1}
	}
	a, b := draft("sda", "/sda", "1"), draft("sdb", "/sdb", "2")
	a.Props = slices.Insert(a.Props, 2, api.Attr{Name: "ID", Value: "x"})
	a.Result, a.Ticks = "x", 2
	b.Links, b.Ticks = []string{"none"}, 3
	for i, want := range []api.Draft{a, b} {
		got, err := evaluate.Draft(exampleRules(t), exampleInput(i+1))
		if err != api.OK {
			t.Errorf("error %d", err)
		}
		sameDraft(t, "the example", got, want)
		record := api.Record{Path: []string{"/sda", "/sdb"}[i], Index: i + 1, Props: want.Props, Tags: want.Tags, Links: want.Links, Owner: "root", Group: "root", Mode: 384}
		r, ticks, err := evaluate.Rules(exampleRules(t), exampleInput(i+1))
		if err != api.OK || ticks != want.Ticks || !reflect.DeepEqual(plainRecord(r), record) {
			t.Errorf("got %+v, %d and %d, want %+v and %d", r, ticks, err, record, want.Ticks)
		}
	}
}

// P15.1: all functions return ErrEvaluateNone, and nothing else, if the tree has no device with the Index.
func TestNoDevice(t *testing.T) {
	for _, x := range []api.Tree{devices(), {}} {
		for _, index := range []int{math.MinInt, -pci, -1, 0, 1, 2, 5, 13, 1<<32 + pci, api.MaxNumber, math.MaxInt} {
			for _, l := range [][]api.Rule{nil, exampleRules(t)} {
				in := input(index)
				in.Tree = x
				r, ticks, err := evaluate.Rules(l, in)
				if err != 150 || ticks != 0 || !reflect.DeepEqual(r, api.Record{}) {
					t.Errorf("Rules for %d: %+v, %d, %d", index, r, ticks, err)
				}
				d, err := evaluate.Draft(l, in)
				if err != api.ErrEvaluateNone || !reflect.DeepEqual(d, api.Draft{}) {
					t.Errorf("Draft for %d: %+v, %d", index, d, err)
				}
				held, err := evaluate.Held(l, in)
				if err != api.ErrEvaluateNone || len(held) != 0 {
					t.Errorf("Held for %d: %v, %d", index, held, err)
				}
			}
		}
	}
}

// An evaluation begins with the base properties, owner and group root, and the mode 0600.
func TestNoRules(t *testing.T) {
	for index, props := range map[int][]api.Attr{
		pci:  attrs("DEVPATH", "/pci0", "DRIVER", "bridge", "SUBSYSTEM", "pci"),
		disk: attrs("DEVNAME", "c0/d0", "DEVPATH", "/pci0/c0!d0", "DRIVER", "raid", "NUMBER", "9", "SUBSYSTEM", "block"),
		part: attrs("DEVNAME", "c0/d0p1", "DEVPATH", "/pci0/c0!d0/c0!d0p1", "NUMBER", "4", "SUBSYSTEM", "block"),
		eth:  attrs("DEVPATH", "/usb0/eth7", "INTERFACE", "eth7", "SUBSYSTEM", "net"),
	} {
		sameDraft(t, "no rules", draftOf(t, index), api.Draft{Props: props, Owner: "root", Group: "root", Mode: 0o600})
		if held := heldOf(t, input(index)); len(held) != 0 {
			t.Errorf("%v held", held)
		}
	}
}

// P15.1: the record of each kind of device has what assign.Finish takes over.
func TestRecords(t *testing.T) {
	l := rulesOf(t, `NAME="wan%n", SYMLINK+="l/%k", OWNER="o%n", GROUP="g", MODE="0640", RUN+="run %p", LOAD+="m:$id", PRIORITY="-5", TAG+="t", ENV{E}="$driver", PROGRAM=="say one"`)
	record := func(path string, index int) api.Record {
		return api.Record{Path: path, Index: index, Run: []string{"run " + path}, Priority: -5, Tags: []string{"t"}}
	}
	p, d, e := record("/pci0", pci), record("/pci0/c0!d0", disk), record("/usb0/eth7", eth)
	p.Props, p.Load = attrs("DEVPATH", "/pci0", "DRIVER", "bridge", "E", "bridge", "SUBSYSTEM", "pci"), []string{"m:pci0"}
	d.Props, d.Load = attrs("DEVNAME", "c0/d0", "DEVPATH", "/pci0/c0!d0", "DRIVER", "raid", "E", "raid", "NUMBER", "9", "SUBSYSTEM", "block"), []string{"m:c0!d0"}
	d.Links, d.Owner, d.Group, d.Mode = []string{"l/c0_d0"}, "o0", "g", 0o640
	e.Props, e.Load, e.Name = attrs("DEVPATH", "/usb0/eth7", "INTERFACE", "eth7", "SUBSYSTEM", "net"), []string{"m:eth7"}, "wan7"
	for _, want := range []api.Record{p, d, e} {
		got, ticks, err := evaluate.Rules(l, input(want.Index))
		if err != api.OK || ticks != 1 || !reflect.DeepEqual(plainRecord(got), want) {
			t.Errorf("got %+v, %d and %d, want %+v", got, ticks, err, want)
		}
	}
}

// P15.1: the draft has what := has closed, and the numbers of calls and ticks.
func TestDraftFields(t *testing.T) {
	d := draftOf(t, eth, `NAME:="a", PROGRAM=="say two"`, `IMPORT{program}!="bad", OWNER:="%k/"`)
	if want := []api.Term{{Key: api.KeyName}, {Key: api.KeyOwner}}; !slices.Equal(d.Closed, want) {
		t.Errorf("closed: %+v", d.Closed)
	}
	if d.Name != "a" || d.Owner != "root" {
		t.Errorf("name %q, owner %q", d.Name, d.Owner)
	}
	ranAre(t, d, 2, 5, "more  words than one")
}
