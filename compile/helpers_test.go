package compile_test

import (
	"fmt"
	"reflect"
	"slices"
	"strings"
	"testing"

	"coldplug/api"
	"coldplug/compile"
	"coldplug/evaluate"
	"coldplug/grammar"
	"coldplug/tree"
)

// rulesOf returns the rules of some lines, which must be valid together.
func rulesOf(t *testing.T, lines ...string) []api.Rule {
	t.Helper()
	l, faults := grammar.Script(api.File{Name: "a.rules", Text: strings.Join(lines, "\n")})
	if len(faults) > 0 || len(l) != len(lines) {
		t.Fatalf("faults of %q: %+v", lines, faults)
	}
	linked, faults := grammar.Link(l)
	if len(faults) > 0 {
		t.Fatalf("faults of %q: %+v", lines, faults)
	}
	return linked
}

// attrs returns the attributes or properties with names and values in turn.
func attrs(l ...string) []api.Attr {
	var list []api.Attr
	for pair := range slices.Chunk(l, 2) {
		list = append(list, api.Attr{Name: pair[0], Value: pair[1]})
	}
	return list
}

func plain(index, parent int, name, subsystem string, l ...string) api.Device {
	return api.Device{Index: index, Parent: parent, Name: name, Original: name, Subsystem: subsystem, Kind: api.KindPlain, Attrs: attrs(l...)}
}

// Indexes of the tree of the tests.
const (
	pci  = 7
	disk = 9
	usb  = 3
	eth  = 8
)

// devices is the tree of the tests: /pci0 with the block device /pci0/sda, and /usb0 with the interface /usb0/eth7, which is named lan0.
func devices() api.Tree {
	bus := plain(pci, 0, "pci0", "pci", "vendor", "v1")
	bus.Driver = "bridge"
	sda := plain(disk, pci, "sda", "block", "content", "fs:u1:root", "size", "12")
	sda.Kind, sda.Number, sda.Driver = api.KindBlock, 1, "sd"
	lan := plain(eth, usb, "eth7", "net", "address", "00:aa")
	lan.Kind, lan.Name = api.KindNet, "lan0"
	return api.Tree{Devices: []api.Device{bus, sda, plain(usb, 0, "usb0", "usb"), lan}}
}

// device returns a device of the tests.
func device(t *testing.T, index int) api.Device {
	t.Helper()
	d, ok := tree.Find(devices(), index)
	if !ok {
		t.Fatalf("no device %d", index)
	}
	return d
}

// input returns the input of a device of the tests.
func input(index int) api.Input {
	helpers := []api.Helper{
		{Command: "say *", Output: "A=a;B=two words", Ticks: 2},
		{Command: "bad", Output: "no", Fails: true, Ticks: 3},
		{Command: "slow", Ticks: 11},
	}
	return api.Input{Action: "add", Tree: devices(), Index: index, Parent: api.Record{Path: "/p", Index: 2, Props: attrs("X", "x")}, Helpers: helpers, Limit: 10}
}

// placesAre checks the candidates of some lines for a device.
func placesAre(t *testing.T, index int, lines []string, want ...int) {
	t.Helper()
	if got := compile.New(rulesOf(t, lines...)).Candidates(device(t, index)); !slices.Equal(got, want) {
		t.Errorf("%q for %d: the candidates are %v, want %v", lines, index, got, want)
	}
}

// isCandidate checks whether a line is a candidate for a device.
func isCandidate(t *testing.T, want bool, index int, line string) {
	t.Helper()
	if got := compile.New(rulesOf(t, line)).Candidates(device(t, index)); (len(got) == 1) != want {
		t.Errorf("%q for %d: the candidates are %v, want %v", line, index, got, want)
	}
}

// keysAre checks the keys of some lines.
func keysAre(t *testing.T, lines []string, want ...string) {
	t.Helper()
	if got := compile.New(rulesOf(t, lines...)).Keys(); !slices.Equal(got, want) {
		t.Errorf("%q: the keys are %q, want %q", lines, got, want)
	}
}

// sameRules checks rules; nil and empty lists are the same.
func sameRules(t *testing.T, what string, got, want []api.Rule) {
	t.Helper()
	if !slices.EqualFunc(got, want, func(a, b api.Rule) bool {
		return a.File == b.File && a.Line == b.Line && slices.Equal(a.Terms, b.Terms)
	}) {
		t.Errorf("%s: got %+v, want %+v", what, got, want)
	}
}

// plainRecord is a record without empty lists that are not nil.
func plainRecord(r api.Record) api.Record {
	if len(r.Props) == 0 {
		r.Props = nil
	}
	for _, l := range []*[]string{&r.Tags, &r.Links, &r.Run, &r.Load} {
		if len(*l) == 0 {
			*l = nil
		}
	}
	return r
}

// sameAsRules checks that a program evaluates an input as evaluate.Rules does with all rules.
func sameAsRules(t *testing.T, l []api.Rule, in api.Input) {
	t.Helper()
	got, ticks, err := compile.New(l).Evaluate(in)
	want, wantTicks, wantErr := evaluate.Rules(l, in)
	if !reflect.DeepEqual(plainRecord(got), plainRecord(want)) || ticks != wantTicks || err != wantErr {
		t.Errorf("%+v with %+v: got %+v, %d, %d, want %+v, %d, %d", l, in, got, ticks, err, want, wantTicks, wantErr)
	}
}

// all returns what all methods return, printed; nil and empty lists are printed in the same way.
func all(p *compile.Program, in api.Input) string {
	r, ticks, err := p.Evaluate(in)
	s := fmt.Sprintf("%+v %d %d %+v %q", r, ticks, err, p.Rules(), p.Keys())
	for _, d := range append(in.Tree.Devices, api.Device{}) {
		s += fmt.Sprint(" ", p.Candidates(d))
	}
	return s
}

// The tree of the tests is a valid one.
func TestTree(t *testing.T) {
	if err := tree.Check(devices()); err != api.OK {
		t.Error(err)
	}
}
