package tree_test

import (
	"math/rand"
	"slices"
	"strings"
	"testing"

	"coldplug/api"
	"coldplug/tree"
)

// P4.1: what a valid tree may have, up to the limits.
func TestValidTrees(t *testing.T) {
	// The root of the chain, "d", comes ahead of the others, "d000" and so on.
	full := chain(api.MaxDepth)
	for i, d := range roots(api.MaxDevices - api.MaxDepth) {
		d.Index = api.MaxNumber - i
		full = append(full, d)
	}
	for title, l := range map[string][]api.Device{
		"no devices":                      nil,
		"the example":                     example().Devices,
		"as many devices as may be":       roots(api.MaxDevices),
		"as deep as may be":               chain(api.MaxDepth),
		"both":                            full,
		"names, not bytes, give an order": {plain(1, 0, "a"), plain(2, 1, "b"), plain(3, 0, "a+"), plain(4, 0, "a-"), plain(5, 4, "a")},
		"Indexes do not ascend":           {plain(9, 0, "a"), plain(3, 9, "b"), plain(7, 9, "c"), plain(1, 0, "d")},
		"a name below two parents":        {plain(1, 0, "a"), plain(2, 1, "x"), plain(3, 0, "b"), plain(4, 3, "x")},
		"a plain device and an interface": {iface(1, 0, "a", "x"), plain(2, 0, "x")},
		"exchanged names":                 {iface(1, 0, "a", "b"), iface(2, 0, "b", "a")},
		"names against the order":         {iface(1, 0, "a", "z"), plain(2, 1, "b"), iface(3, 0, "b", "c")},
		"interfaces with one Original":    {plain(1, 0, "a"), iface(2, 1, "eth0", "x"), plain(3, 0, "b"), iface(4, 3, "eth0", "y")},
		"an interface named like a node":  {block(1, 0, "a", 1), iface(2, 0, "b", "a")},
		"one number, two kinds":           {block(1, 0, "a", 7), char(2, 0, "b", 7)},
		"a node that begins like another": {block(1, 0, "a", 1), char(2, 0, "ab", 1), block(3, 0, "abc", 2)},
		"nodes in one directory":          {block(1, 0, "a!b", 1), char(2, 0, "a!bc", 1), char(3, 0, "a!c!d", 2)},
		"plain devices with node names":   {block(1, 0, "a", 1), plain(2, 1, "a"), plain(3, 0, "a!b")},
	} {
		if got := tree.Check(treeOf(l...)); got != api.OK {
			t.Errorf("%s: got %v, want OK", title, got)
		}
	}
}

// P4.1: each error alone.
func TestFlaws(t *testing.T) {
	unsound := plain(2, 0, "b")
	unsound.Subsystem = ""
	for title, c := range map[string]struct {
		l    []api.Device
		want api.Errno
	}{
		"one device too many":          {roots(api.MaxDevices + 1), api.ErrTreeLimit},
		"many wrong devices":           {make([]api.Device, api.MaxDevices+1), api.ErrTreeLimit},
		"the zero device":              {[]api.Device{{}}, api.ErrTreeDevice},
		"an unsound device":            {[]api.Device{plain(1, 0, "a"), unsound}, api.ErrTreeDevice},
		"its own parent":               {[]api.Device{plain(1, 1, "a")}, api.ErrTreeDevice},
		"an Index twice":               {[]api.Device{plain(1, 0, "a"), plain(2, 0, "b"), plain(1, 0, "c")}, api.ErrTreeTaken},
		"an Index of the parent":       {[]api.Device{plain(1, 0, "a"), plain(2, 1, "b"), plain(1, 2, "c")}, api.ErrTreeTaken},
		"no parent":                    {[]api.Device{plain(1, 0, "a"), plain(2, 3, "b")}, api.ErrTreeParent},
		"the parent behind":            {[]api.Device{plain(2, 1, "a"), plain(1, 0, "b")}, api.ErrTreeParent},
		"a ring":                       {[]api.Device{plain(1, 2, "a"), plain(2, 1, "b")}, api.ErrTreeParent},
		"too deep":                     {chain(api.MaxDepth + 1), api.ErrTreeDepth},
		"roots that descend":           {[]api.Device{plain(1, 0, "b"), plain(2, 0, "a")}, api.ErrTreeOrder},
		"children that descend":        {[]api.Device{plain(1, 0, "a"), plain(2, 1, "c"), plain(3, 1, "b")}, api.ErrTreeOrder},
		"an origin twice":              {[]api.Device{plain(1, 0, "a"), plain(2, 0, "a")}, api.ErrTreeOrder},
		"an origin twice, not at once": {[]api.Device{plain(1, 0, "a"), plain(2, 1, "b"), plain(3, 0, "a")}, api.ErrTreeOrder},
		"a subtree that is torn apart": {[]api.Device{plain(1, 0, "a"), plain(2, 0, "b"), plain(3, 1, "c")}, api.ErrTreeOrder},
		"an order of bytes":            {[]api.Device{plain(1, 0, "a"), plain(2, 0, "a+"), plain(3, 1, "b")}, api.ErrTreeOrder},
		"an order of present names":    {[]api.Device{iface(1, 0, "b", "x"), iface(2, 0, "a", "y")}, api.ErrTreeOrder},
		"an interface name twice":      {[]api.Device{iface(1, 0, "a", "x"), plain(2, 0, "b"), iface(3, 0, "c", "x")}, api.ErrTreeTaken},
		"a block number twice":         {[]api.Device{block(1, 0, "a", 7), char(2, 0, "b", 7), block(3, 0, "c", 7)}, api.ErrTreeTaken},
		"a char number twice":          {[]api.Device{char(1, 0, "a", 7), block(2, 0, "b", 7), char(3, 0, "c", 7)}, api.ErrTreeTaken},
		"a node name twice":            {[]api.Device{plain(1, 0, "a"), block(2, 1, "x", 1), char(3, 0, "x", 1)}, api.ErrTreeTaken},
		"a node beneath one ahead":     {[]api.Device{block(1, 0, "a", 1), char(2, 0, "a!b", 1)}, api.ErrTreeTaken},
		"a node far beneath one ahead": {[]api.Device{block(1, 0, "a", 1), char(2, 0, "a!b!c", 1)}, api.ErrTreeTaken},
		"a node above one ahead":       {[]api.Device{plain(1, 0, "a"), block(2, 1, "x!b", 1), char(3, 0, "x", 1)}, api.ErrTreeTaken},
	} {
		if got := tree.Check(treeOf(c.l...)); got != c.want {
			t.Errorf("%s: got %v, want %v", title, got, c.want)
		}
	}
}

// P4.1: of several errors of one device, the one that is named first is returned.
func TestOrderOfFlaws(t *testing.T) {
	ahead := chain(api.MaxDepth)
	ahead = append(ahead, iface(20, 0, "e", "x"), block(21, 0, "f", 7))
	flaws := []struct {
		title string
		err   api.Errno
		do    func(d *api.Device)
	}{
		{"unsound", api.ErrTreeDevice, func(d *api.Device) { d.Subsystem = "/" }},
		{"Index", api.ErrTreeTaken, func(d *api.Device) { d.Index = 20 }},
		{"parent", api.ErrTreeParent, func(d *api.Device) { d.Parent = 99 }},
		{"depth", api.ErrTreeDepth, func(d *api.Device) { d.Parent = api.MaxDepth }},
		{"order", api.ErrTreeOrder, func(d *api.Device) { d.Parent = 1 }},
		{"number", api.ErrTreeTaken, func(d *api.Device) { d.Number = 7 }},
	}
	for i, first := range flaws {
		for _, second := range flaws[i:] {
			d := block(30, 0, "g", 8)
			second.do(&d)
			first.do(&d)
			if got := tree.Check(treeOf(append(slices.Clone(ahead), d)...)); got != first.err {
				t.Errorf("%s and %s: got %v, want %v", first.title, second.title, got, first.err)
			}
		}
	}
}

// P4.1: the first device with an error counts, whatever errors those behind it have.
func TestFirstDeviceWithAFlaw(t *testing.T) {
	l := []api.Device{block(1, 0, "a", 1), block(2, 0, "b", 1), plain(3, 0, "a"), plain(4, 9, "a"), {}}
	for _, want := range []api.Errno{api.ErrTreeTaken, api.ErrTreeOrder, api.ErrTreeParent, api.ErrTreeDevice, api.OK} {
		if got := tree.Check(treeOf(l...)); got != want {
			t.Errorf("%v: got %v, want %v", indexes(l), got, want)
		}
		if len(l) > 1 {
			l = slices.Delete(l, 1, 2)
		}
	}
}

// spoil changes a list of devices in a way that may make a valid tree wrong.
func spoil(r *rand.Rand, l []api.Device) []api.Device {
	i, j := r.Intn(len(l)), r.Intn(len(l))
	switch r.Intn(9) {
	case 0:
		l[i], l[j] = l[j], l[i]
	case 1:
		l = slices.Insert(l, i, l[j])
	case 2:
		l = slices.Delete(l, i, i+1)
	case 3:
		l[i].Parent = l[j].Index
	case 4:
		l[i].Index = l[j].Index
	case 5:
		l[i].Number = l[j].Number
	case 6:
		l[i].Name = l[j].Name
	case 7:
		l[i].Name, l[i].Original = l[j].Name, l[j].Original
	case 8:
		l[i].Kind, l[i].Number = l[j].Kind, l[j].Number
	}
	return l
}

// P4.1: trees that are valid or not get the answer of the reference.
func TestCheckAgainstReference(t *testing.T) {
	counts := map[api.Errno]int{}
	forRandomTrees(3000, func(r *rand.Rand, x api.Tree, _ []api.Device) {
		for range 4 {
			want := refCheck(x)
			counts[want]++
			if got := tree.Check(x); got != want {
				t.Fatalf("%v: got %v, want %v", x, got, want)
			}
			if len(x.Devices) > 0 {
				x.Devices = spoil(r, x.Devices)
			}
		}
	})
	for _, err := range []api.Errno{api.OK, api.ErrTreeDevice, api.ErrTreeTaken, api.ErrTreeParent, api.ErrTreeOrder} {
		if counts[err] < 100 {
			t.Errorf("only %d trees with %v", counts[err], err)
		}
	}
}

// P4.1, R4: a tree that is checked stays as it is, and so does the memory behind its end.
func TestCheckChangesNothing(t *testing.T) {
	memory := append(example().Devices, plain(6, 0, "spare"), plain(7, 0, "spare"))
	before := deepCopy(api.Tree{Devices: memory})
	if got := tree.Check(api.Tree{Devices: memory[:5]}); got != api.OK {
		t.Errorf("got %v, want OK", got)
	}
	if !equal(memory, before.Devices) {
		t.Errorf("Check changed the tree into %v", memory)
	}
}

// P4.1: names of the greatest length give origins that are right, too.
func TestLongOrigins(t *testing.T) {
	l := chain(api.MaxDepth)
	for i := range l {
		l[i].Name = strings.Repeat("n", api.MaxName)
		l[i].Original = l[i].Name
	}
	x := treeOf(l...)
	if got := tree.Check(x); got != api.OK {
		t.Errorf("got %v, want OK", got)
	}
	want := strings.Repeat("/"+l[0].Name, api.MaxDepth)
	if got, ok := tree.Origin(x, api.MaxDepth); got != want || !ok {
		t.Errorf("Origin: got %q, %v", got, ok)
	}
	if got, ok := tree.At(x, want); got.Index != api.MaxDepth || !ok {
		t.Errorf("At: got %v, %v", got, ok)
	}
	if got, ok := tree.At(x, want+"/n"); !isZero(got) || ok {
		t.Errorf("At, too deep: got %v, %v", got, ok)
	}
}
