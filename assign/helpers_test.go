package assign_test

import (
	"fmt"
	"math"
	"reflect"
	"slices"
	"strings"
	"testing"

	"coldplug/api"
	"coldplug/assign"
)

// The ops of assignments, as they are written.
var ops = map[string]int{"=": api.OpAssign, "+=": api.OpMore, "-=": api.OpLess, ":=": api.OpFinal}

// table is the table of the chapter: which ops each key has.
var table = map[int]string{
	api.KeyEnv:      "= +=",
	api.KeyTag:      "= += -=",
	api.KeyName:     "= :=",
	api.KeySymlink:  "= += -= :=",
	api.KeyOwner:    "= :=",
	api.KeyGroup:    "= :=",
	api.KeyMode:     "= :=",
	api.KeyRun:      "= += :=",
	api.KeyLoad:     "+=",
	api.KeyPriority: "=",
	api.KeyLabel:    "=",
	api.KeyGoto:     "=",
}

// assignments are all terms that are assignments; ENV has the name A.
func assignments() []api.Term {
	var l []api.Term
	for key := api.KeyAction; key <= api.KeyGoto; key++ {
		for _, op := range strings.Fields(table[key]) {
			x := api.Term{Key: key, Op: ops[op]}
			if key == api.KeyEnv {
				x.Name = "A"
			}
			l = append(l, x)
		}
	}
	return l
}

// propsOf returns the properties with names and values in turn.
func propsOf(l ...string) []api.Attr {
	var props []api.Attr
	for pair := range slices.Chunk(l, 2) {
		props = append(props, api.Attr{Name: pair[0], Value: pair[1]})
	}
	return props
}

// numbered returns n texts that ascend.
func numbered(prefix string, n int) []string {
	var l []string
	for i := range n {
		l = append(l, fmt.Sprintf("%s%03d", prefix, i))
	}
	return l
}

// fullProps returns as many properties as a draft may have, one of which is named ID.
func fullProps() []api.Attr {
	props := propsOf("ID", "1")
	for _, key := range numbered("K", api.MaxProps-1) {
		props = append(props, api.Attr{Name: key, Value: "v"})
	}
	return props
}

// rich is a draft whose texts are all different, and in which nothing is closed.
func rich() api.Draft {
	return api.Draft{
		Props:    propsOf("A", "1", "DEVNAME", "sda", "ID", "x y"),
		Tags:     []string{"t1", "t2"},
		Links:    []string{"disk/a", "disk/b"},
		Run:      []string{"run z", "run a"},
		Load:     []string{"pci:d1", "usb:*"},
		Name:     "lan0",
		Priority: 7,
		Owner:    "ann",
		Group:    "disk",
		Mode:     0o640,
		Result:   "ok then",
		Calls:    2,
		Ticks:    3,
	}
}

// opened returns a draft in which nothing is closed.
func opened(d api.Draft) api.Draft {
	d.Closed = nil
	return d
}

// copyOf returns a draft that shares no memory with d.
func copyOf(d api.Draft) api.Draft {
	d.Props, d.Closed = slices.Clone(d.Props), slices.Clone(d.Closed)
	d.Tags, d.Links, d.Run, d.Load = slices.Clone(d.Tags), slices.Clone(d.Links), slices.Clone(d.Run), slices.Clone(d.Load)
	return d
}

// apply makes assignments of one key, written as ops and values in turn; a name stands behind the key.
func apply(d api.Draft, key string, l ...string) api.Draft {
	keys := map[string]int{
		"ENV": api.KeyEnv, "TAG": api.KeyTag, "NAME": api.KeyName, "SYMLINK": api.KeySymlink, "OWNER": api.KeyOwner, "GROUP": api.KeyGroup,
		"MODE": api.KeyMode, "RUN": api.KeyRun, "LOAD": api.KeyLoad, "PRIORITY": api.KeyPriority, "LABEL": api.KeyLabel, "GOTO": api.KeyGoto,
	}
	written, name, _ := strings.Cut(strings.TrimSuffix(key, "}"), "{")
	for pair := range slices.Chunk(l, 2) {
		d = assign.Apply(d, api.Term{Key: keys[written], Name: name, Op: ops[pair[0]], Value: "not looked at"}, pair[1])
	}
	return d
}

// plainDraft replaces lists that are empty by nil, as they mean the same.
func plainDraft(d api.Draft) api.Draft {
	if len(d.Props) == 0 {
		d.Props = nil
	}
	if len(d.Closed) == 0 {
		d.Closed = nil
	}
	for _, l := range []*[]string{&d.Tags, &d.Links, &d.Run, &d.Load} {
		if len(*l) == 0 {
			*l = nil
		}
	}
	return d
}

// draftIs checks all of a draft.
func draftIs(t *testing.T, what string, got, want api.Draft) {
	t.Helper()
	if !reflect.DeepEqual(plainDraft(got), plainDraft(want)) {
		t.Errorf("%s: got %+v, want %+v", what, got, want)
	}
}

// propsAre checks that assignments change the properties alone, and to these.
func propsAre(t *testing.T, d, got api.Draft, want ...string) {
	t.Helper()
	d.Props = propsOf(want...)
	draftIs(t, "properties", got, d)
}

// listIs checks a list of texts.
func listIs(t *testing.T, got []string, want ...string) {
	t.Helper()
	if !slices.Equal(got, want) {
		t.Errorf("got %q, want %q", got, want)
	}
}

func plain(index, parent int, name string) api.Device {
	return api.Device{Index: index, Parent: parent, Name: name, Original: name, Subsystem: "s", Kind: api.KindPlain}
}

// numberedDevice returns a block or char device.
func numberedDevice(kind, index, parent int, name string) api.Device {
	d := plain(index, parent, name)
	d.Kind, d.Number = kind, index
	return d
}

func iface(index, parent int, original, name string) api.Device {
	d := plain(index, parent, original)
	d.Kind, d.Name = api.KindNet, name
	return d
}

// treeOf returns the tree with these devices.
func treeOf(l ...api.Device) api.Tree { return api.Tree{Devices: l} }

// kinds is a tree with devices of all kinds: /pci0 4, /pci0/cciss!c0 5, /pci0/tty0 6, /pci0/eth0 7 with the name lan1, and /usb0 3.
func kinds() api.Tree {
	return treeOf(plain(4, 0, "pci0"), numberedDevice(api.KindBlock, 5, 4, "cciss!c0"), iface(7, 4, "eth0", "lan1"), numberedDevice(api.KindChar, 6, 4, "tty0"), plain(3, 0, "usb0"))
}

// noIndexes are Indexes that no device of kinds has.
func noIndexes() []int {
	return []int{math.MinInt, -4, -1, 0, 1, 2, 8, 1<<32 + 4, api.MaxNumber, math.MaxInt}
}
