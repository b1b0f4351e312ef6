package evaluate_test

import (
	"reflect"
	"slices"
	"strings"
	"testing"

	"coldplug/api"
	"coldplug/evaluate"
	"coldplug/grammar"
	"coldplug/tree"
)

// rulesOf returns the rules of some lines, which must be valid together.
func rulesOf(t *testing.T, lines ...string) []api.Rule {
	t.Helper()
	l, faults := grammar.Script(api.File{Name: "a.rules", Text: strings.Join(lines, "\n")})
	if len(faults) > 0 || len(l) != len(lines) {
		t.Fatalf("faults of %q: %+v", lines, faults)
	}
	linked, faults := grammar.Link(l)
	if len(faults) > 0 {
		t.Fatalf("faults of %q: %+v", lines, faults)
	}
	return linked
}

// attrs returns the attributes or properties with names and values in turn.
func attrs(l ...string) []api.Attr {
	var list []api.Attr
	for pair := range slices.Chunk(l, 2) {
		list = append(list, api.Attr{Name: pair[0], Value: pair[1]})
	}
	return list
}

func plain(index, parent int, name, subsystem string, l ...string) api.Device {
	return api.Device{Index: index, Parent: parent, Name: name, Original: name, Subsystem: subsystem, Kind: api.KindPlain, Attrs: attrs(l...)}
}

func block(index, parent int, name string, l ...string) api.Device {
	d := plain(index, parent, name, "block", l...)
	d.Kind, d.Number = api.KindBlock, index
	return d
}

func iface(index, parent int, original, name string, l ...string) api.Device {
	d := plain(index, parent, original, "net", l...)
	d.Kind, d.Name = api.KindNet, name
	return d
}

// driven returns a device with a driver.
func driven(d api.Device, driver string) api.Device {
	d.Driver = driver
	return d
}

// Indexes of the tree of the tests.
const (
	pci   = 7
	disk  = 9
	part  = 4
	lower = 12
	hub   = 3
	eth   = 8
)

// devices is the tree of the tests: /pci0, its block device /pci0/c0!d0 with the partition /pci0/c0!d0/c0!d0p1 and the device /pci0/c0!d0/c0!d0p1/md below that; /usb0 with the interface /usb0/eth7, which is named lan0.
func devices() api.Tree {
	return api.Tree{Devices: []api.Device{
		driven(plain(pci, 0, "pci0", "pci", "size", "p", "vendor", "v1"), "bridge"),
		driven(block(disk, pci, "c0!d0", "content", "table:t(,fs:a:b)", "model", "m 1", "size", "d"), "raid"),
		block(part, disk, "c0!d0p1", "content", "fs:u1:root"),
		plain(lower, part, "md", "virtual", "size", "l"),
		driven(plain(hub, 0, "usb0", "usb", "slot", "h"), "hub"),
		iface(eth, hub, "eth7", "lan0", "address", "00:aa", "slot", "2"),
	}}
}

// parentRecord is the record of the parent in the inputs of the tests.
func parentRecord() api.Record {
	return api.Record{Path: "/parent", Index: 2, Props: attrs("DEVNAME", "pd", "DRIVER", "pr", "ID_A", "1", "ID_B", "2 3", "X", "x"), Tags: []string{"ptag"}, Links: []string{"plink"}, Name: "pname", Owner: "powner", Priority: 9}
}

// helpers is the table of the tests.
func helpers() []api.Helper {
	return []api.Helper{
		{Command: "say one", Output: "one", Ticks: 1},
		{Command: "say *", Output: "more  words than one", Ticks: 2},
		{Command: "bad*", Output: "A=bad", Fails: true, Ticks: 3},
		{Command: "slow", Output: "A=slow", Ticks: 11},
		{Command: "items", Output: "A=1;B=two words;c=3;D=;DRIVER=none;A=2", Ticks: 4},
		{Command: "empty", Ticks: 5},
		{Command: "attrs d v1", Output: "above", Ticks: 6},
		{Command: "attrs d ", Output: "no above", Ticks: 7},
	}
}

// input returns the input of a device of the tests.
func input(index int) api.Input {
	return api.Input{Action: "add", Tree: devices(), Index: index, Parent: parentRecord(), Helpers: helpers(), Limit: 10}
}

// draftOf returns the draft of a device behind some lines.
func draftOf(t *testing.T, index int, lines ...string) api.Draft {
	t.Helper()
	d, err := evaluate.Draft(rulesOf(t, lines...), input(index))
	if err != api.OK {
		t.Fatalf("Draft of %q for %d: error %d", lines, index, err)
	}
	return d
}

// heldOf returns which lines held for an input.
func heldOf(t *testing.T, in api.Input, lines ...string) []int {
	t.Helper()
	l, err := evaluate.Held(rulesOf(t, lines...), in)
	if err != api.OK {
		t.Fatalf("Held of %q for %d: error %d", lines, in.Index, err)
	}
	return l
}

// heldAre checks which lines hold for a device.
func heldAre(t *testing.T, index int, lines []string, want ...int) {
	t.Helper()
	if got := heldOf(t, input(index), lines...); !slices.Equal(got, want) {
		t.Errorf("%q for %d: %v held, want %v", lines, index, got, want)
	}
}

// holds checks whether a line holds for a device.
func holds(t *testing.T, want bool, index int, line string) {
	t.Helper()
	if got := heldOf(t, input(index), line); (len(got) == 1) != want {
		t.Errorf("%q for %d: %v held, want %v", line, index, got, want)
	}
}

// listIs checks a list of texts.
func listIs(t *testing.T, what string, got []string, want ...string) {
	t.Helper()
	if !slices.Equal(got, want) {
		t.Errorf("%s: got %q, want %q", what, got, want)
	}
}

// baseKeys are the base keys of layer 11.
var baseKeys = []string{"DEVNAME", "DEVPATH", "DRIVER", "INTERFACE", "MODALIAS", "NUMBER", "SUBSYSTEM"}

// propsAre checks the properties of a draft that are no base properties.
func propsAre(t *testing.T, d api.Draft, want ...string) {
	t.Helper()
	got := slices.DeleteFunc(slices.Clone(d.Props), func(a api.Attr) bool { return slices.Contains(baseKeys, a.Name) })
	if !slices.Equal(got, attrs(want...)) {
		t.Errorf("properties: got %q, want %q", got, want)
	}
}

// ranAre checks the numbers of calls and ticks, and the result of the last PROGRAM.
func ranAre(t *testing.T, d api.Draft, calls, ticks int, result string) {
	t.Helper()
	if d.Calls != calls || d.Ticks != ticks || d.Result != result {
		t.Errorf("got %d calls, %d ticks and %q, want %d, %d and %q", d.Calls, d.Ticks, d.Result, calls, ticks, result)
	}
}

// sameDraft checks all of a draft; nil and empty lists are the same.
func sameDraft(t *testing.T, what string, got, want api.Draft) {
	t.Helper()
	if !reflect.DeepEqual(plainDraft(got), plainDraft(want)) {
		t.Errorf("%s: got %+v, want %+v", what, got, want)
	}
}

func plainDraft(d api.Draft) api.Draft {
	if len(d.Props) == 0 {
		d.Props = nil
	}
	if len(d.Closed) == 0 {
		d.Closed = nil
	}
	for _, l := range []*[]string{&d.Tags, &d.Links, &d.Run, &d.Load} {
		if len(*l) == 0 {
			*l = nil
		}
	}
	return d
}

func plainRecord(r api.Record) api.Record {
	if len(r.Props) == 0 {
		r.Props = nil
	}
	for _, l := range []*[]string{&r.Tags, &r.Links, &r.Run, &r.Load} {
		if len(*l) == 0 {
			*l = nil
		}
	}
	return r
}

// The tree of the tests is a valid one.
func TestTree(t *testing.T) {
	if err := tree.Check(devices()); err != api.OK {
		t.Error(err)
	}
}
