package assign_test

import (
	"reflect"
	"testing"

	"coldplug/api"
	"coldplug/assign"
)

// recordIs checks what Finish returns for a device.
func recordIs(t *testing.T, d api.Draft, x api.Tree, index int, want api.Record) {
	t.Helper()
	if got, ok := assign.Finish(d, x, index); !ok || !reflect.DeepEqual(got, want) {
		t.Errorf("Finish of %d: got %+v and %v, want %+v", index, got, ok, want)
	}
}

// P13.4: the record of a device has what its kind has, its origin and its Index.
func TestFinish(t *testing.T) {
	d := rich()
	d.Closed = []api.Term{{Key: api.KeyName}}
	all := api.Record{Props: d.Props, Tags: d.Tags, Run: d.Run, Load: d.Load, Priority: d.Priority}
	for index, path := range map[int]string{4: "/pci0", 3: "/usb0"} {
		want := all
		want.Path, want.Index = path, index
		recordIs(t, d, kinds(), index, want)
	}
	for index, path := range map[int]string{5: "/pci0/cciss!c0", 6: "/pci0/tty0"} {
		want := all
		want.Path, want.Index = path, index
		want.Links, want.Owner, want.Group, want.Mode = d.Links, d.Owner, d.Group, d.Mode
		recordIs(t, d, kinds(), index, want)
	}
	want := all
	want.Path, want.Index, want.Name = "/pci0/eth0", 7, d.Name
	recordIs(t, d, kinds(), 7, want)
}

// P13.4: an origin has Originals alone, of the ancestors too.
func TestFinishRenamed(t *testing.T) {
	x := treeOf(iface(1, 0, "br0", "bridge"), iface(2, 1, "eth0", "lan1"))
	recordIs(t, api.Draft{Name: "eth9"}, x, 2, api.Record{Path: "/br0/eth0", Index: 2, Name: "eth9"})
	recordIs(t, api.Draft{}, x, 1, api.Record{Path: "/br0", Index: 1})
}

// P13.4: without such a device there is no record.
func TestFinishNone(t *testing.T) {
	for _, index := range noIndexes() {
		for _, x := range []api.Tree{kinds(), {}} {
			if got, ok := assign.Finish(rich(), x, index); ok || !reflect.DeepEqual(got, api.Record{}) {
				t.Errorf("Finish of %d: got %+v and %v", index, got, ok)
			}
		}
	}
}

// P13.4: the record of what a draft begins with.
func TestFinishBegin(t *testing.T) {
	recordIs(t, assign.Begin(nil), kinds(), 4, api.Record{Path: "/pci0", Index: 4})
	recordIs(t, assign.Begin(propsOf("A", "1")), kinds(), 6, api.Record{Path: "/pci0/tty0", Index: 6, Props: propsOf("A", "1"), Owner: "root", Group: "root", Mode: 0o600})
}
