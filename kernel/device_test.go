package kernel_test

import (
	"fmt"
	"slices"
	"strings"
	"testing"

	"coldplug/api"
	"coldplug/device"
	"coldplug/kernel"
)

// P5.2, OpAdd: what counts of the device, and what the kernel decides.
func TestAdd(t *testing.T) {
	k := begin(t)
	attrs := []api.Attr{{Name: "a", Value: "1"}, {Name: "b", Value: "2"}}
	full := api.Device{Index: 77, Parent: 66, Name: "no", Original: "sda", Subsystem: "block", Driver: "no",
		Alias: "scsi:0", Kind: api.KindBlock, Number: 8, Attrs: attrs}
	wrong := iface("eth0")
	wrong.Index, wrong.Parent, wrong.Name, wrong.Driver = -1, api.MaxNumber+1, "/", "/"
	do(t, k, addOp("", plain("pci0", "")), addOp("/pci0", full), addOp("/pci0/sda", wrong), addOp("", char("tty", 8)))
	want := []api.Device{
		{Index: 1, Name: "pci0", Original: "pci0", Subsystem: "s", Kind: api.KindPlain},
		{Index: 2, Parent: 1, Name: "sda", Original: "sda", Subsystem: "block", Alias: "scsi:0", Kind: api.KindBlock, Number: 8, Attrs: attrs},
		{Index: 3, Parent: 2, Name: "eth0", Original: "eth0", Subsystem: "net", Kind: api.KindNet},
		{Index: 4, Name: "tty", Original: "tty", Subsystem: "tty", Kind: api.KindChar, Number: 8},
	}
	if got := k.Tree().Devices; !slices.EqualFunc(got, want, device.Same) {
		t.Errorf("got %+v, want %+v", got, want)
	}
	emits(t, k, 0, "1 add 1 /pci0", "2 add 2 /pci0/sda", "3 add 3 /pci0/sda/eth0", "4 add 4 /tty")
}

// P5.2, OpAdd: an Index is never used again, not even the greatest one, and a refused device uses none.
func TestIndexes(t *testing.T) {
	k := begin(t)
	add := func(name string, want int) {
		t.Helper()
		if got, err := k.Do(addOp("", plain(name, ""))); got != want || err != api.OK {
			t.Errorf("%s: got %d, %v, want %d", name, got, err, want)
		}
	}
	add("b", 1)
	refused(t, k, addOp("", plain("b", "")), api.ErrTreeTaken)
	refused(t, k, addOp("/x", plain("c", "")), api.ErrKernelNone)
	add("a", 2)
	do(t, k, removeOp("/a"))
	add("a", 3)
	do(t, k, removeOp("/a"), removeOp("/b"))
	add("a", 4)
	add("b", 5)
	do(t, k, removeOp("/a"))
	add("c", 6)
}

// P5.2, OpAdd: each error alone, and that of the parent ahead of all others.
func TestAddErrors(t *testing.T) {
	k := begin(t)
	do(t, k, addOp("", block("sda", 8)), addOp("", iface("eth0")), renameOp("/eth0", "lan0"))
	unsound := plain("x", "")
	unsound.Subsystem = ""
	attrs := plain("x", "")
	attrs.Attrs = []api.Attr{{Name: "b", Value: "1"}, {Name: "a", Value: "1"}}
	for _, c := range []struct {
		path string
		d    api.Device
		want api.Errno
	}{
		{"/none", plain("x", ""), api.ErrKernelNone},
		{"/", plain("x", ""), api.ErrKernelNone},
		{"sda", plain("x", ""), api.ErrKernelNone},
		{"/sda/", plain("x", ""), api.ErrKernelNone},
		{"/lan0", plain("x", ""), api.ErrKernelNone},
		{"/none", api.Device{}, api.ErrKernelNone},
		{"/none", block("sda", 8), api.ErrKernelNone},
		{"", api.Device{}, api.ErrTreeDevice},
		{"/sda", unsound, api.ErrTreeDevice},
		{"", attrs, api.ErrTreeDevice},
		{"", plain("x", "\n"), api.ErrTreeDevice},
		{"", block("x", 0), api.ErrTreeDevice},
		{"", api.Device{Name: "x", Subsystem: "s", Kind: api.KindPlain}, api.ErrTreeDevice},
		{"", plain("sda", ""), api.ErrTreeTaken},
		{"", plain("eth0", ""), api.ErrTreeTaken},
		{"/sda", iface("lan0"), api.ErrTreeTaken},
		{"/sda", block("sda", 9), api.ErrTreeTaken},
		{"/sda", block("sdb", 8), api.ErrTreeTaken},
	} {
		refused(t, k, addOp(c.path, c.d), c.want)
	}
	do(t, k, addOp("", plain("lan0", "")), addOp("/sda", iface("eth0")), addOp("/sda", char("sdb", 8)))
	k, path := begin(t), ""
	for range api.MaxDepth {
		do(t, k, addOp(path, plain("d", "")))
		path += "/d"
	}
	refused(t, k, addOp(path, plain("d", "")), api.ErrTreeDepth)
	for i := range api.MaxDevices - api.MaxDepth {
		do(t, k, addOp("", plain(fmt.Sprint("x", i), "")))
	}
	refused(t, k, addOp("", plain("x", "")), api.ErrTreeLimit)
	refused(t, k, addOp(path, plain("d", "")), api.ErrTreeLimit)
	refused(t, k, addOp("/none", plain("d", "")), api.ErrKernelNone)
}

// P5.2, OpRemove: the subtree goes, in reverse tree order, with the paths ahead of it.
func TestRemove(t *testing.T) {
	k := begin(t)
	do(t, k, addOp("", plain("b", "")), addOp("/b", iface("z")), addOp("/b", plain("a", "")), addOp("/b/z", plain("x", "")),
		addOp("/b/a", plain("y", "")), addOp("", plain("a", "")), addOp("", plain("c", "")), renameOp("/b/z", "lan0"), bindOp("/b/a", "any"))
	refused(t, k, removeOp("/b/lan0"), api.ErrKernelNone)
	refused(t, k, removeOp(""), api.ErrKernelNone)
	do(t, k, removeOp("/b"))
	emits(t, k, 9, "10 remove 4 /b/lan0/x", "11 remove 2 /b/lan0", "12 remove 5 /b/a/y", "13 remove 3 /b/a", "14 remove 1 /b")
	refused(t, k, removeOp("/b"), api.ErrKernelNone)
	do(t, k, removeOp("/c"), removeOp("/a"))
	emits(t, k, 14, "15 remove 7 /c", "16 remove 6 /a")
	if got := k.Tree().Devices; len(got) > 0 {
		t.Errorf("left: %v", got)
	}
}

// P5.2, OpSet: an attribute comes, changes and goes; what changes nothing emits nothing.
func TestSet(t *testing.T) {
	k := begin(t)
	do(t, k, addOp("", iface("eth0")), renameOp("/eth0", "lan0"), addOp("/eth0", plain("x", "")))
	for i, c := range []struct {
		name, value string
		event       bool
		want        []api.Attr
	}{
		{"m", "1", true, []api.Attr{{Name: "m", Value: "1"}}},
		{"m", "1", false, []api.Attr{{Name: "m", Value: "1"}}},
		{"z", "", false, []api.Attr{{Name: "m", Value: "1"}}},
		{"a", "x y", true, []api.Attr{{Name: "a", Value: "x y"}, {Name: "m", Value: "1"}}},
		{"m", "2", true, []api.Attr{{Name: "a", Value: "x y"}, {Name: "m", Value: "2"}}},
		{"m", "", true, []api.Attr{{Name: "a", Value: "x y"}}},
		{"m", "", false, []api.Attr{{Name: "a", Value: "x y"}}},
		{"a", "", true, nil},
		{"a", strings.Repeat("v", api.MaxText), true, []api.Attr{{Name: "a", Value: strings.Repeat("v", api.MaxText)}}},
	} {
		last := k.Last()
		do(t, k, setOp("/eth0", c.name, c.value))
		if got := k.Tree().Devices[0].Attrs; !slices.Equal(got, c.want) {
			t.Errorf("%d: got %v, want %v", i, got, c.want)
		}
		if c.event {
			emits(t, k, last, fmt.Sprint(last+1, " change 1 /lan0"))
		} else {
			emits(t, k, last)
		}
	}
	last := k.Last()
	do(t, k, setOp("/eth0/x", "q", "1"))
	emits(t, k, last, fmt.Sprint(last+1, " change 2 /lan0/x"))
	if l := k.Tree().Devices; len(l[0].Attrs) != 1 || len(l[1].Attrs) != 1 {
		t.Errorf("the attributes are %v", l)
	}
}

// P5.2, OpSet: the errors; a name is wrong also where nothing would change.
func TestSetErrors(t *testing.T) {
	k := begin(t)
	do(t, k, addOp("", plain("a", "")), addOp("", plain("full", "")))
	for i := range api.MaxAttrs {
		do(t, k, setOp("/full", fmt.Sprint("n", i), "v"))
	}
	for _, c := range []struct {
		path, name, value string
		want              api.Errno
	}{
		{"/none", "n", "v", api.ErrKernelNone},
		{"", "n", "v", api.ErrKernelNone},
		{"/none", "", "v", api.ErrKernelNone},
		{"/a", "", "v", api.ErrTreeDevice},
		{"/a", "", "", api.ErrTreeDevice},
		{"/a", "n/n", "v", api.ErrTreeDevice},
		{"/a", "n/n", "", api.ErrTreeDevice},
		{"/a", "..", "", api.ErrTreeDevice},
		{"/a", strings.Repeat("n", api.MaxName+1), "", api.ErrTreeDevice},
		{"/a", "n", "\t", api.ErrTreeDevice},
		{"/a", "n", "\x80", api.ErrTreeDevice},
		{"/a", "n", strings.Repeat("v", api.MaxText+1), api.ErrTreeDevice},
		{"/full", "n", "v", api.ErrTreeDevice},
		{"/full", "n0", "\n", api.ErrTreeDevice},
	} {
		refused(t, k, setOp(c.path, c.name, c.value), c.want)
	}
	do(t, k, setOp("/full", "n", ""), setOp("/full", "n0", ""), setOp("/full", "n", "v"), setOp("/full", "n1", "w"))
}

// P5.2, OpTrigger: a change is told, and nothing changes.
func TestTrigger(t *testing.T) {
	k := begin(t)
	do(t, k, addOp("", iface("eth0")), addOp("/eth0", plain("x", "")), renameOp("/eth0", "lan0"))
	before := k.Tree().Devices
	do(t, k, triggerOp("/eth0/x"), triggerOp("/eth0"), triggerOp("/eth0"))
	emits(t, k, 3, "4 change 2 /lan0/x", "5 change 1 /lan0", "6 change 1 /lan0")
	if got := k.Tree().Devices; !slices.EqualFunc(got, before, device.Same) {
		t.Errorf("got %v, want %v", got, before)
	}
	for _, path := range []string{"", "/", "/lan0", "/x", "eth0", "/eth0/", "\xff"} {
		refused(t, k, triggerOp(path), api.ErrKernelNone)
	}
}

// P5.2, OpRename: the path behind and the one ahead are told, for the interface alone.
func TestRename(t *testing.T) {
	k := begin(t)
	do(t, k, addOp("", iface("a")), addOp("/a", iface("b")), addOp("/a/b", plain("c", "")))
	do(t, k, renameOp("/a", "x"), renameOp("/a/b", "y"), renameOp("/a", "x"), renameOp("/a", "a"), renameOp("/a/b", "b"))
	emits(t, k, 3, "4 move 1 /x was /a", "5 move 2 /x/y was /x/b", "6 move 1 /a was /x", "7 move 2 /a/b was /a/y")
	do(t, k, renameOp("/a", "t"), renameOp("/a/b", "a"), renameOp("/a", "b"))
	emits(t, k, 7, "8 move 1 /t was /a", "9 move 2 /t/a was /t/b", "10 move 1 /b was /t")
	l := k.Tree().Devices
	if l[0].Name != "b" || l[0].Original != "a" || l[1].Name != "a" || l[1].Original != "b" || l[2].Name != "c" {
		t.Errorf("the devices are %v", l)
	}
}

// P5.2, OpRename: the errors, in their order.
func TestRenameErrors(t *testing.T) {
	k := begin(t)
	do(t, k, addOp("", iface("a")), addOp("", iface("b")), addOp("", plain("p", "")), addOp("", block("q", 1)), addOp("", char("r", 1)), renameOp("/b", "x"))
	long := strings.Repeat("n", api.MaxIface+1)
	for _, c := range []struct {
		path, name string
		want       api.Errno
	}{
		{"/none", "y", api.ErrKernelNone},
		{"/x", "y", api.ErrKernelNone},
		{"", "y", api.ErrKernelNone},
		{"/none", "", api.ErrKernelNone},
		{"/p", "y", api.ErrKernelKind},
		{"/p", "p", api.ErrKernelKind},
		{"/p", "", api.ErrKernelKind},
		{"/p", "a", api.ErrKernelKind},
		{"/q", "y", api.ErrKernelKind},
		{"/r", "y", api.ErrKernelKind},
		{"/a", "", api.ErrTreeDevice},
		{"/a", ".", api.ErrTreeDevice},
		{"/a", "y:1", api.ErrTreeDevice},
		{"/a", long, api.ErrTreeDevice},
		{"/a", "x", api.ErrTreeTaken},
		{"/b", "a", api.ErrTreeTaken},
	} {
		refused(t, k, renameOp(c.path, c.name), c.want)
	}
	do(t, k, renameOp("/a", "b"), renameOp("/b", "a"), renameOp("/a", long[1:]))
	do(t, k, renameOp("/b", "p"))
}

// P5.2, OpBind and OpUnbind: no module is asked, and the driver is told.
func TestBind(t *testing.T) {
	k := begin(t, called("m")...)
	do(t, k, addOp("", iface("eth0")), addOp("/eth0", plain("x", "")), renameOp("/eth0", "lan0"))
	do(t, k, bindOp("/eth0", "any"), bindOp("/eth0/x", "m"))
	if got := drivers(k); !slices.Equal(got, []string{"any", "m"}) {
		t.Errorf("the drivers are %q", got)
	}
	do(t, k, unbindOp("/eth0/x"), unbindOp("/eth0"))
	if got := drivers(k); !slices.Equal(got, []string{"", ""}) {
		t.Errorf("the drivers are %q", got)
	}
	do(t, k, bindOp("/eth0", strings.Repeat("n", api.MaxName)))
	emits(t, k, 3, "4 bind 1 /lan0", "5 bind 2 /lan0/x", "6 unbind 2 /lan0/x", "7 unbind 1 /lan0", "8 bind 1 /lan0")
}

// P5.2, OpBind and OpUnbind: the errors, in their order.
func TestBindErrors(t *testing.T) {
	k := begin(t, called("m")...)
	do(t, k, addOp("", plain("a", "")), addOp("", plain("b", "")), bindOp("/b", "m"))
	for _, c := range []struct {
		path, driver string
		want         api.Errno
	}{
		{"/none", "d", api.ErrKernelNone},
		{"", "d", api.ErrKernelNone},
		{"/none", "", api.ErrKernelNone},
		{"/b", "d", api.ErrKernelBound},
		{"/b", "m", api.ErrKernelBound},
		{"/b", "", api.ErrKernelBound},
		{"/b", "/", api.ErrKernelBound},
		{"/a", "", api.ErrTreeDevice},
		{"/a", "..", api.ErrTreeDevice},
		{"/a", "a/b", api.ErrTreeDevice},
		{"/a", strings.Repeat("n", api.MaxName+1), api.ErrTreeDevice},
	} {
		refused(t, k, bindOp(c.path, c.driver), c.want)
	}
	refused(t, k, unbindOp("/none"), api.ErrKernelNone)
	refused(t, k, unbindOp(""), api.ErrKernelNone)
	refused(t, k, unbindOp("/a"), api.ErrKernelBound)
}

// P5.2: Kinds that there are not, and what an operation does not look at.
func TestKinds(t *testing.T) {
	k := begin(t, called("m")...)
	do(t, k, addOp("", iface("a")))
	for _, kind := range []int{-1 << 63, -1, 0, 10, 11, 256 + api.OpTrigger, 1<<63 - 1} {
		refused(t, k, api.Op{Kind: kind}, api.ErrKernelOp)
		refused(t, k, api.Op{Kind: kind, Path: "/a", Device: plain("b", ""), Name: "n", Value: "m"}, api.ErrKernelOp)
	}
	junk := api.Device{Index: -1, Parent: -1, Name: "/", Original: "/", Driver: "/", Alias: "\n", Kind: 99, Number: -1, Attrs: make([]api.Attr, 99)}
	for _, op := range []api.Op{
		{Kind: api.OpAdd, Device: plain("b", ""), Name: "/", Value: "/"},
		{Kind: api.OpSet, Path: "/b", Device: junk, Name: "n", Value: "v"},
		{Kind: api.OpTrigger, Path: "/b", Device: junk, Name: "/", Value: "/"},
		{Kind: api.OpRename, Path: "/a", Device: junk, Name: "x", Value: "/"},
		{Kind: api.OpBind, Path: "/b", Device: junk, Name: "/", Value: "d"},
		{Kind: api.OpUnbind, Path: "/b", Device: junk, Name: "/", Value: "/"},
		{Kind: api.OpLoad, Path: "/none", Device: junk, Name: "/", Value: "m"},
		{Kind: api.OpUnload, Path: "/none", Device: junk, Name: "/", Value: "m"},
		{Kind: api.OpRemove, Path: "/b", Device: junk, Name: "/", Value: "/"},
	} {
		do(t, k, op)
	}
}

// R4: the device of an operation is neither changed nor kept.
func TestDoKeepsNothing(t *testing.T) {
	k, err := kernel.New(nil)
	if err != api.OK {
		t.Fatal(err)
	}
	full := func() []api.Attr {
		return append(make([]api.Attr, 0, 4), api.Attr{Name: "b", Value: "1"}, api.Attr{Name: "d", Value: "2"})
	}
	attrs := full()
	d := plain("x", "")
	d.Attrs = attrs
	do(t, k, addOp("", d), setOp("/x", "a", "0"), setOp("/x", "c", "3"), setOp("/x", "b", ""), setOp("/x", "d", "9"))
	if !deepEqual(attrs[:4], append(full(), api.Attr{}, api.Attr{})) {
		t.Errorf("the attributes became %v", attrs[:4])
	}
	do(t, k, addOp("/x", d))
	clear(attrs)
	want := [][]api.Attr{{{Name: "a", Value: "0"}, {Name: "c", Value: "3"}, {Name: "d", Value: "9"}}, full()}
	for i, d := range k.Tree().Devices {
		if !slices.Equal(d.Attrs, want[i]) {
			t.Errorf("the attributes of %d are %v, want %v", d.Index, d.Attrs, want[i])
		}
	}
}

// R1: operations with very long fields are refused as others are.
func TestHugeOperations(t *testing.T) {
	k := begin(t, called("m")...)
	do(t, k, addOp("", iface("eth0")))
	long := strings.Repeat("/a", 1<<20)
	d := plain("x", "")
	d.Attrs = make([]api.Attr, 1<<20)
	refused(t, k, addOp("", d), api.ErrTreeDevice)
	refused(t, k, addOp("", plain("x", long)), api.ErrTreeDevice)
	refused(t, k, addOp(long, plain("x", "")), api.ErrKernelNone)
	refused(t, k, setOp("/eth0", long, ""), api.ErrTreeDevice)
	refused(t, k, setOp("/eth0", "n", long), api.ErrTreeDevice)
	refused(t, k, renameOp("/eth0", long), api.ErrTreeDevice)
	refused(t, k, bindOp("/eth0", long), api.ErrTreeDevice)
	refused(t, k, loadOp(long), api.ErrKernelNone)
	refused(t, k, unloadOp(long), api.ErrKernelNone)
}
