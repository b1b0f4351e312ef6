package tree_test

import (
	"math/rand"
	"slices"
	"testing"

	"coldplug/api"
	"coldplug/tree"
)

// P4.4: the place is the one of the origin, not of the Index and not of the present name.
func TestInsertPlaces(t *testing.T) {
	for _, c := range []struct {
		d    api.Device
		want []int
	}{
		{plain(6, 0, "a"), []int{6, 1, 2, 3, 4, 5}},
		{plain(6, 0, "pci"), []int{6, 1, 2, 3, 4, 5}},
		{plain(6, 0, "pci0+"), []int{1, 2, 3, 6, 4, 5}},
		{plain(6, 0, "zz"), []int{1, 2, 3, 4, 5, 6}},
		{plain(6, 1, "a"), []int{1, 6, 2, 3, 4, 5}},
		{plain(6, 1, "z"), []int{1, 2, 3, 6, 4, 5}},
		{plain(6, 2, "a"), []int{1, 2, 6, 3, 4, 5}},
		{plain(6, 3, "sda"), []int{1, 2, 3, 6, 4, 5}},
		{plain(6, 5, "x"), []int{1, 2, 3, 4, 5, 6}},
		{iface(6, 4, "eth1", "a"), []int{1, 2, 3, 4, 5, 6}},
		{iface(6, 4, "a", "zz"), []int{1, 2, 3, 4, 6, 5}},
		{iface(6, 4, "lan0", "eth0"), []int{1, 2, 3, 4, 5, 6}},
		{char(6, 1, "c", 8), []int{1, 6, 2, 3, 4, 5}},
		{block(6, 1, "sdb", 10), []int{1, 2, 3, 6, 4, 5}},
	} {
		got, err := tree.Insert(example(), c.d)
		if err != api.OK || !slices.Equal(indexes(got.Devices), c.want) || tree.Check(got) != api.OK {
			t.Errorf("%v: got %v, %v, want %v", c.d, indexes(got.Devices), err, c.want)
		}
	}
	got, err := tree.Insert(api.Tree{}, plain(1, 0, "a"))
	if err != api.OK || !equal(got.Devices, []api.Device{plain(1, 0, "a")}) {
		t.Errorf("into the empty tree: got %v, %v", got, err)
	}
}

// P4.4: each error alone.
func TestInsertErrors(t *testing.T) {
	full := treeOf(roots(api.MaxDevices)...)
	deep := treeOf(chain(api.MaxDepth)...)
	unsound := plain(6, 0, "x")
	unsound.Driver = "/"
	for title, c := range map[string]struct {
		x    api.Tree
		d    api.Device
		want api.Errno
	}{
		"the zero device":           {example(), api.Device{}, api.ErrTreeDevice},
		"an unsound device":         {example(), unsound, api.ErrTreeDevice},
		"an Index":                  {example(), plain(3, 0, "x"), api.ErrTreeTaken},
		"no parent":                 {example(), plain(6, 7, "x"), api.ErrTreeParent},
		"a full tree":               {full, plain(999, 0, "x"), api.ErrTreeLimit},
		"a full tree, below":        {full, plain(999, 1, "x"), api.ErrTreeLimit},
		"too deep":                  {deep, plain(999, api.MaxDepth, "d"), api.ErrTreeDepth},
		"an origin of a root":       {example(), plain(6, 0, "pci0"), api.ErrTreeTaken},
		"an origin of a child":      {example(), plain(6, 1, "sda"), api.ErrTreeTaken},
		"an origin, not a path":     {example(), plain(6, 4, "eth0"), api.ErrTreeTaken},
		"an interface name":         {example(), iface(6, 0, "a", "lan0"), api.ErrTreeTaken},
		"a block number":            {example(), block(6, 0, "a", 9), api.ErrTreeTaken},
		"a node name":               {example(), block(6, 4, "sda", 10), api.ErrTreeTaken},
		"a node name, of a char":    {example(), char(6, 4, "sda", 10), api.ErrTreeTaken},
		"a node beneath another":    {example(), char(6, 4, "sda!x", 10), api.ErrTreeTaken},
		"a node above one behind":   {treeOf(block(1, 0, "x!y", 1)), char(2, 0, "x", 1), api.ErrTreeTaken},
		"a char number":             {treeOf(char(1, 0, "x", 1)), char(2, 0, "y", 1), api.ErrTreeTaken},
		"a number of one behind it": {treeOf(block(1, 0, "x", 1)), block(2, 0, "a", 1), api.ErrTreeTaken},
	} {
		if got, err := tree.Insert(c.x, c.d); err != c.want || len(got.Devices) != 0 {
			t.Errorf("%s: got %d devices, %v, want %v", title, len(got.Devices), err, c.want)
		}
	}
}

// P4.4: of several errors, the one that is named first is returned.
func TestOrderOfInsertErrors(t *testing.T) {
	full := chain(api.MaxDepth)
	for i, d := range roots(api.MaxDevices - api.MaxDepth) {
		d.Index = 100 + i
		full = append(full, d)
	}
	full[api.MaxDepth] = block(100, 0, "d000", 7)
	flaws := []struct {
		title string
		err   api.Errno
		do    func(d *api.Device)
	}{
		{"unsound", api.ErrTreeDevice, func(d *api.Device) { d.Subsystem = "/" }},
		{"Index", api.ErrTreeTaken, func(d *api.Device) { d.Index = 100 }},
		{"parent", api.ErrTreeParent, func(d *api.Device) { d.Parent = 99 }},
		{"depth", api.ErrTreeDepth, func(d *api.Device) { d.Parent = api.MaxDepth }},
		{"number", api.ErrTreeTaken, func(d *api.Device) { d.Number = 7 }},
	}
	for _, x := range []api.Tree{treeOf(full...), treeOf(full[:len(full)-1]...)} {
		for i, first := range flaws {
			for _, second := range flaws[i:] {
				want := first.err
				if i > 2 && len(x.Devices) == api.MaxDevices {
					want = api.ErrTreeLimit
				}
				d := block(999, 0, "x", 8)
				second.do(&d)
				first.do(&d)
				if _, err := tree.Insert(x, d); err != want {
					t.Errorf("%d devices, %s and %s: got %v, want %v", len(x.Devices), first.title, second.title, err, want)
				}
			}
		}
	}
}

// P4.4: the limits can be reached: the last device of a full tree, and the deepest one.
func TestInsertUpToLimits(t *testing.T) {
	almost := roots(api.MaxDevices)
	last := almost[100]
	almost = slices.Delete(almost, 100, 101)
	got, err := tree.Insert(treeOf(almost...), last)
	if err != api.OK || !equal(got.Devices, roots(api.MaxDevices)) {
		t.Errorf("the last device: got %d devices, %v", len(got.Devices), err)
	}
	got, err = tree.Insert(treeOf(chain(api.MaxDepth-1)...), plain(api.MaxDepth, api.MaxDepth-1, "d"))
	if err != api.OK || !equal(got.Devices, chain(api.MaxDepth)) {
		t.Errorf("the deepest device: got %v, %v", got, err)
	}
}

// P4.4: every device gets the answer of the reference.
func TestInsertAgainstReference(t *testing.T) {
	counts := map[api.Errno]int{}
	forRandomTrees(500, func(r *rand.Rand, x api.Tree, _ []api.Device) {
		for range 10 {
			d := randomDevice(r, x)
			want, wantErr := refInsert(x, d)
			counts[wantErr]++
			if got, err := tree.Insert(x, d); err != wantErr || !equal(got.Devices, want.Devices) {
				t.Fatalf("%v into %v: got %v, %v, want %v, %v", d, x, got, err, want, wantErr)
			}
		}
	})
	for _, err := range []api.Errno{api.OK, api.ErrTreeDevice, api.ErrTreeTaken, api.ErrTreeParent} {
		if counts[err] < 50 {
			t.Errorf("only %d times %v", counts[err], err)
		}
	}
}

// The chapter's consequences: the devices of a tree, inserted in any order in which parents come ahead of their children, give the tree.
func TestInsertInAnyOrder(t *testing.T) {
	forRandomTrees(300, func(r *rand.Rand, x api.Tree, order []api.Device) {
		for _, l := range [][]api.Device{x.Devices, order} {
			var got api.Tree
			for _, d := range l {
				next, err := tree.Insert(got, d)
				if err != api.OK {
					t.Fatalf("%v into %v: %v", d, got, err)
				}
				got = next
			}
			if !equal(got.Devices, x.Devices) {
				t.Fatalf("got %v, want %v", got, x)
			}
		}
	})
}

// P4.5: the example, and Indexes that no device has.
func TestRemove(t *testing.T) {
	for index, want := range map[int][]int{1: {4, 5}, 2: {1, 4, 5}, 3: {1, 2, 4, 5}, 4: {1, 2, 3}, 5: {1, 2, 3, 4}} {
		if got, err := tree.Remove(example(), index); err != api.OK || !slices.Equal(indexes(got.Devices), want) {
			t.Errorf("Remove(%d): got %v, %v, want %v", index, indexes(got.Devices), err, want)
		}
	}
	for _, index := range []int{-1, 0, 6, api.MaxNumber} {
		if got, err := tree.Remove(example(), index); err != api.ErrTreeNone || len(got.Devices) != 0 {
			t.Errorf("Remove(%d): got %v, %v, want ErrTreeNone", index, got, err)
		}
	}
	if got, err := tree.Remove(treeOf(chain(3)...), 1); err != api.OK || len(got.Devices) != 0 {
		t.Errorf("Remove of all: got %v, %v", got, err)
	}
}

// P4.5: what is removed is the subtree; the rest is valid, and the subtree can come back.
func TestRemoveAndInsertAgain(t *testing.T) {
	forRandomTrees(300, func(r *rand.Rand, x api.Tree, _ []api.Device) {
		for _, d := range x.Devices {
			gone := tree.Subtree(x, d.Index)
			got, err := tree.Remove(x, d.Index)
			rest := slices.DeleteFunc(slices.Clone(x.Devices), func(d api.Device) bool { return has(gone, d.Index) })
			if err != api.OK || !equal(got.Devices, rest) || refCheck(got) != api.OK {
				t.Fatalf("Remove(%d) of %v: got %v, %v", d.Index, x, got, err)
			}
			for _, back := range gone {
				if got, err = tree.Insert(got, back); err != api.OK {
					t.Fatalf("Insert of %v: %v", back, err)
				}
			}
			if !equal(got.Devices, x.Devices) {
				t.Fatalf("got %v, want %v", got, x)
			}
		}
	})
}

// P4.5: what may change, and each error alone.
func TestChange(t *testing.T) {
	x := example()
	x.Devices = append(x.Devices, iface(6, 4, "eth1", "lan1"), char(7, 0, "x", 8))
	for title, c := range map[string]struct {
		index int
		do    func(d *api.Device)
		want  api.Errno
	}{
		"nothing":                   {2, func(d *api.Device) {}, api.OK},
		"Driver":                    {2, func(d *api.Device) { d.Driver = "sd" }, api.OK},
		"Alias and Subsystem":       {2, func(d *api.Device) { d.Alias, d.Subsystem = "a b", "scsi" }, api.OK},
		"Attrs":                     {2, func(d *api.Device) { d.Attrs = []api.Attr{{Name: "a", Value: "1"}} }, api.OK},
		"no Attrs":                  {2, func(d *api.Device) { d.Attrs = nil }, api.OK},
		"Number":                    {3, func(d *api.Device) { d.Number = 10 }, api.OK},
		"Number of a char device":   {7, func(d *api.Device) { d.Number = 9 }, api.OK},
		"Name":                      {5, func(d *api.Device) { d.Name = "zz" }, api.OK},
		"Name as Original":          {5, func(d *api.Device) { d.Name = "eth0" }, api.OK},
		"another's Original":        {5, func(d *api.Device) { d.Name = "eth1" }, api.OK},
		"a plain device's Name":     {5, func(d *api.Device) { d.Name = "usb0" }, api.OK},
		"an Index that is free":     {5, func(d *api.Device) { d.Index = 8 }, api.ErrTreeNone},
		"Index 0":                   {5, func(d *api.Device) { d.Index = 0 }, api.ErrTreeNone},
		"an unsound Name":           {5, func(d *api.Device) { d.Name = "" }, api.ErrTreeDevice},
		"Name of a plain device":    {1, func(d *api.Device) { d.Name = "x" }, api.ErrTreeDevice},
		"an attribute without text": {1, func(d *api.Device) { d.Attrs = []api.Attr{{Name: "a"}} }, api.ErrTreeDevice},
		"its own parent":            {1, func(d *api.Device) { d.Parent = 1 }, api.ErrTreeDevice},
		"Parent":                    {5, func(d *api.Device) { d.Parent = 1 }, api.ErrTreeParent},
		"Parent 0":                  {5, func(d *api.Device) { d.Parent = 0 }, api.ErrTreeParent},
		"a Parent that there isn't": {5, func(d *api.Device) { d.Parent = 99 }, api.ErrTreeParent},
		"Original":                  {5, func(d *api.Device) { d.Original = "eth2" }, api.ErrTreeParent},
		"Name and Original":         {1, func(d *api.Device) { d.Name, d.Original = "x", "x" }, api.ErrTreeParent},
		"Kind":                      {2, func(d *api.Device) { d.Kind = api.KindChar }, api.ErrTreeParent},
		"another interface's Name":  {5, func(d *api.Device) { d.Name = "lan1" }, api.ErrTreeTaken},
		"one ahead with the Name":   {6, func(d *api.Device) { d.Name = "lan0" }, api.ErrTreeTaken},
		"another's Number":          {2, func(d *api.Device) { d.Number = 9 }, api.ErrTreeTaken},
		"one ahead with the Number": {3, func(d *api.Device) { d.Number = 8 }, api.ErrTreeTaken},
	} {
		d, _ := byIndex(x, c.index)
		c.do(&d)
		got, err := tree.Change(x, d)
		if err != c.want {
			t.Errorf("%s: got %v, want %v", title, err, c.want)
		}
		want := api.Tree{}
		if c.want == api.OK {
			want = deepCopy(x)
			want.Devices[slices.Index(indexes(x.Devices), c.index)] = d
		}
		if !equal(got.Devices, want.Devices) {
			t.Errorf("%s: got %v, want %v", title, got, want)
		}
	}
}

// P4.5: of several errors of Change, the one that is named first is returned.
func TestOrderOfChangeErrors(t *testing.T) {
	x := example()
	flaws := []struct {
		title string
		err   api.Errno
		do    func(d *api.Device)
	}{
		{"Index", api.ErrTreeNone, func(d *api.Device) { d.Index = 99 }},
		{"unsound", api.ErrTreeDevice, func(d *api.Device) { d.Subsystem = "/" }},
		{"parent", api.ErrTreeParent, func(d *api.Device) { d.Parent = 4 }},
		{"number", api.ErrTreeTaken, func(d *api.Device) { d.Number = 8 }},
	}
	for i, first := range flaws {
		for _, second := range flaws[i:] {
			d, _ := byIndex(x, 3)
			second.do(&d)
			first.do(&d)
			if _, err := tree.Change(x, d); err != first.err {
				t.Errorf("%s and %s: got %v, want %v", first.title, second.title, err, first.err)
			}
		}
	}
}

// P4.5: every change gets the answer of the reference, and no change moves an origin.
func TestChangeAgainstReference(t *testing.T) {
	counts := map[api.Errno]int{}
	forRandomTrees(500, func(r *rand.Rand, x api.Tree, _ []api.Device) {
		for _, d := range x.Devices {
			other := randomDevice(r, x)
			if r.Intn(2) == 0 {
				other = x.Devices[r.Intn(len(x.Devices))]
			}
			d = spoil(r, []api.Device{d, other})[0]
			origin, _ := tree.Origin(x, d.Index)
			want, wantErr := refChange(x, d)
			counts[wantErr]++
			got, err := tree.Change(x, d)
			if err != wantErr || !equal(got.Devices, want.Devices) {
				t.Fatalf("%v in %v: got %v, %v, want %v, %v", d, x, got, err, want, wantErr)
			}
			if now, _ := tree.Origin(got, d.Index); err == api.OK && (now != origin || refCheck(got) != api.OK) {
				t.Fatalf("%v in %v: got %v, with the origin %s", d, x, got, now)
			}
		}
	})
	for _, err := range []api.Errno{api.OK, api.ErrTreeNone, api.ErrTreeDevice, api.ErrTreeParent, api.ErrTreeTaken} {
		if counts[err] < 20 {
			t.Errorf("only %d times %v", counts[err], err)
		}
	}
}

// P4.4, P4.5, R4: arguments stay as they are, with the memory behind their ends; results share no memory with them.
func TestChangesShareNothing(t *testing.T) {
	spare := plain(99, 0, "spare")
	room := func() []api.Attr {
		return append(make([]api.Attr, 0, 8), api.Attr{Name: "a", Value: "1"}, api.Attr{Name: "b", Value: "2"})
	}
	d := plain(6, 0, "q")
	turned := block(2, 1, "sda", 8)
	for title, do := range map[string]func(x api.Tree, attrs []api.Attr) (api.Tree, api.Errno){
		"Insert": func(x api.Tree, attrs []api.Attr) (api.Tree, api.Errno) {
			d.Attrs = attrs
			return tree.Insert(x, d)
		},
		"Remove": func(x api.Tree, _ []api.Attr) (api.Tree, api.Errno) { return tree.Remove(x, 1) },
		"Remove at the end": func(x api.Tree, _ []api.Attr) (api.Tree, api.Errno) {
			return tree.Remove(x, 3)
		},
		"Change": func(x api.Tree, attrs []api.Attr) (api.Tree, api.Errno) {
			turned.Attrs = attrs
			return tree.Change(x, turned)
		},
		"Insert, an error": func(x api.Tree, _ []api.Attr) (api.Tree, api.Errno) { return tree.Insert(x, plain(1, 0, "q")) },
	} {
		memory := append(example().Devices, spare, spare)
		attrs := room()
		got, _ := do(api.Tree{Devices: memory[:5]}, attrs[:1])
		spoilAttrs(got.Devices...)
		clear(got.Devices)
		_ = append(got.Devices, api.Device{}, api.Device{})
		if !equal(memory, append(example().Devices, spare, spare)) {
			t.Errorf("%s: the tree became %v", title, memory)
		}
		if !slices.Equal(attrs, room()) {
			t.Errorf("%s: the attributes became %v", title, attrs)
		}
	}
}
