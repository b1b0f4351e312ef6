package tree_test

import (
	"math/rand"
	"slices"
	"strings"
	"testing"

	"coldplug/api"
	"coldplug/device"
	"coldplug/tree"
)

// P4.2: the example, what is found, and what is not.
func TestFinds(t *testing.T) {
	x := example()
	type finder = func(api.Tree, string) (api.Device, bool)
	for _, c := range []struct {
		title string
		find  finder
		key   string
		index int
	}{
		{"At", tree.At, "/pci0", 1},
		{"At", tree.At, "/pci0/sda", 2},
		{"At", tree.At, "/pci0/sda/sda1", 3},
		{"At", tree.At, "/usb0/eth0", 5},
		{"At a present name", tree.At, "/usb0/lan0", 0},
		{"At", tree.At, "/usb0/sda", 0},
		{"At", tree.At, "/pci0/sda/sda1/x", 0},
		{"At", tree.At, "/a", 0},
		{"At", tree.At, "/z", 0},
		{"At no path", tree.At, "", 0},
		{"At no path", tree.At, "/", 0},
		{"At no path", tree.At, "pci0", 0},
		{"At no path", tree.At, "/pci0/", 0},
		{"At no path", tree.At, "//pci0", 0},
		{"At no path", tree.At, "/pci0//sda", 0},
		{"At no path", tree.At, "/pci0/../pci0", 0},
		{"Interface", tree.Interface, "lan0", 5},
		{"Interface of an Original", tree.Interface, "eth0", 0},
		{"Interface of another kind", tree.Interface, "usb0", 0},
		{"Interface of a path", tree.Interface, "/usb0/lan0", 0},
		{"Interface of nothing", tree.Interface, "", 0},
		{"Node", tree.Node, "sda", 2},
		{"Node", tree.Node, "sda1", 3},
		{"Node of a plain device", tree.Node, "usb0", 0},
		{"Node of an interface", tree.Node, "eth0", 0},
		{"Node", tree.Node, "sd", 0},
		{"Node of nothing", tree.Node, "", 0},
	} {
		want, _ := byIndex(x, c.index)
		if got, ok := c.find(x, c.key); !device.Same(got, want) || ok != (c.index != 0) {
			t.Errorf("%s, %q: got %v, %v, want %d", c.title, c.key, got, ok, c.index)
		}
	}
	for _, index := range []int{-1, 0, 1, 2, 3, 4, 5, 6, api.MaxNumber} {
		want, wantOK := byIndex(x, index)
		if got, ok := tree.Find(x, index); !device.Same(got, want) || ok != wantOK {
			t.Errorf("Find %d: got %v, %v", index, got, ok)
		}
	}
}

// byIndex returns the device with an Index and true, or the zero device and false.
func byIndex(t api.Tree, index int) (api.Device, bool) {
	for _, d := range t.Devices {
		if d.Index == index {
			return d, true
		}
	}
	return api.Device{}, false
}

// P4.2: a node is found by its node name, not by its Original; nodes of both kinds are found.
func TestNodeNames(t *testing.T) {
	x := treeOf(block(1, 0, "cciss!c0d0", 1), char(2, 0, "cciss!c1", 1), plain(3, 0, "sda"))
	for name, want := range map[string]int{"cciss/c0d0": 1, "cciss/c1": 2, "cciss!c0d0": 0, "cciss": 0, "sda": 0, "c1": 0} {
		if got, ok := tree.Node(x, name); got.Index != want || ok != (want != 0) {
			t.Errorf("Node(%q): got %v, %v, want %d", name, got, ok, want)
		}
	}
}

// P4.2: the path has the present names of the device and of its ancestors, the origin the first ones.
func TestOriginAndPath(t *testing.T) {
	x := treeOf(iface(1, 0, "br0", "bridge"), iface(2, 1, "eth0", "lan0"), plain(3, 2, "queue"), iface(4, 1, "eth1", "eth0"))
	for _, c := range []struct {
		index        int
		origin, path string
	}{
		{1, "/br0", "/bridge"},
		{2, "/br0/eth0", "/bridge/lan0"},
		{3, "/br0/eth0/queue", "/bridge/lan0/queue"},
		{4, "/br0/eth1", "/bridge/eth0"},
		{0, "", ""},
		{5, "", ""},
		{-1, "", ""},
	} {
		if got, ok := tree.Origin(x, c.index); got != c.origin || ok != (c.origin != "") {
			t.Errorf("Origin(%d): got %q, %v, want %q", c.index, got, ok, c.origin)
		}
		if got, ok := tree.Path(x, c.index); got != c.path || ok != (c.path != "") {
			t.Errorf("Path(%d): got %q, %v, want %q", c.index, got, ok, c.path)
		}
	}
}

// P4.3: the example, and Indexes that no device has.
func TestRelatives(t *testing.T) {
	x := example()
	for _, c := range []struct {
		index                        int
		ancestors, children, subtree []int
	}{
		{0, nil, []int{1, 4}, nil},
		{1, nil, []int{2}, []int{1, 2, 3}},
		{2, []int{1}, []int{3}, []int{2, 3}},
		{3, []int{2, 1}, nil, []int{3}},
		{4, nil, []int{5}, []int{4, 5}},
		{5, []int{4}, nil, []int{5}},
		{6, nil, nil, nil},
		{-1, nil, nil, nil},
	} {
		if got := tree.Ancestors(x, c.index); !slices.Equal(indexes(got), c.ancestors) {
			t.Errorf("Ancestors(%d): got %v, want %v", c.index, indexes(got), c.ancestors)
		}
		if got := tree.Children(x, c.index); !slices.Equal(indexes(got), c.children) {
			t.Errorf("Children(%d): got %v, want %v", c.index, indexes(got), c.children)
		}
		if got := tree.Subtree(x, c.index); !slices.Equal(indexes(got), c.subtree) {
			t.Errorf("Subtree(%d): got %v, want %v", c.index, indexes(got), c.subtree)
		}
	}
	if got := tree.Children(api.Tree{}, 0); len(got) != 0 {
		t.Errorf("roots of the empty tree: got %v", got)
	}
	deep := treeOf(chain(api.MaxDepth)...)
	if got := tree.Ancestors(deep, api.MaxDepth); !slices.Equal(indexes(got), []int{6, 5, 4, 3, 2, 1}) {
		t.Errorf("Ancestors of the deepest device: got %v", indexes(got))
	}
}

// P4.2, P4.3: whole devices are found, and relatives are those that the definitions make.
func TestFindsAgainstDefinitions(t *testing.T) {
	forRandomTrees(300, func(r *rand.Rand, x api.Tree, _ []api.Device) {
		for _, d := range x.Devices {
			origin := "/" + strings.Join(refNames(x.Devices, d, original), "/")
			path := "/" + strings.Join(refNames(x.Devices, d, present), "/")
			if got, ok := tree.Origin(x, d.Index); got != origin || !ok {
				t.Fatalf("Origin(%d): got %q, %v, want %q", d.Index, got, ok, origin)
			}
			if got, ok := tree.Path(x, d.Index); got != path || !ok {
				t.Fatalf("Path(%d): got %q, %v, want %q", d.Index, got, ok, path)
			}
			if got, ok := tree.Find(x, d.Index); !device.Same(got, d) || !ok {
				t.Fatalf("Find(%d): got %v, %v, want %v", d.Index, got, ok, d)
			}
			if got, ok := tree.At(x, origin); !device.Same(got, d) || !ok {
				t.Fatalf("At(%q): got %v, %v, want %v", origin, got, ok, d)
			}
			checkNames(t, x, d)
			checkRelatives(t, x, d.Index, origin)
		}
		var tops []api.Device
		for _, d := range x.Devices {
			if d.Parent == 0 {
				tops = append(tops, d)
			}
		}
		if got := tree.Children(x, 0); !equal(got, tops) {
			t.Fatalf("roots: got %v, want %v", got, tops)
		}
	})
}

// checkNames finds a device by its name and by its node name, if it has them.
func checkNames(t *testing.T, x api.Tree, d api.Device) {
	if got, ok := tree.Interface(x, d.Name); d.Kind == api.KindNet && (!device.Same(got, d) || !ok) {
		t.Fatalf("Interface(%q): got %v, %v, want %v", d.Name, got, ok, d)
	}
	node, has := device.Node(d)
	if got, ok := tree.Node(x, node); has && (!device.Same(got, d) || !ok) {
		t.Fatalf("Node(%q): got %v, %v, want %v", node, got, ok, d)
	}
}

// checkRelatives compares the relatives of a device with those that origins tell.
func checkRelatives(t *testing.T, x api.Tree, index int, origin string) {
	var above, children, subtree []api.Device
	for _, d := range x.Devices {
		at := "/" + strings.Join(refNames(x.Devices, d, original), "/")
		if strings.HasPrefix(origin, at+"/") {
			above = append(above, d)
		}
		if d.Parent == index {
			children = append(children, d)
		}
		if at == origin || strings.HasPrefix(at, origin+"/") {
			subtree = append(subtree, d)
		}
	}
	slices.Reverse(above)
	if got := tree.Ancestors(x, index); !equal(got, above) {
		t.Fatalf("Ancestors(%d): got %v, want %v", index, got, above)
	}
	if got := tree.Children(x, index); !equal(got, children) {
		t.Fatalf("Children(%d): got %v, want %v", index, got, children)
	}
	if got := tree.Subtree(x, index); !equal(got, subtree) {
		t.Fatalf("Subtree(%d): got %v, want %v", index, got, subtree)
	}
}

// spoilAttrs writes into all attributes of devices, and behind their ends.
func spoilAttrs(l ...api.Device) {
	for _, d := range l {
		for i := range d.Attrs {
			d.Attrs[i] = api.Attr{Name: "spoiled", Value: "spoiled"}
		}
		_ = append(d.Attrs, api.Attr{Name: "spoiled", Value: "spoiled"})
	}
}

// P4.2, P4.3, R4: results share no memory with the tree.
func TestFindsShareNothing(t *testing.T) {
	x := example()
	one := func(d api.Device, _ bool) []api.Device { return []api.Device{d} }
	for title, find := range map[string]func() []api.Device{
		"Find":      func() []api.Device { return one(tree.Find(x, 2)) },
		"At":        func() []api.Device { return one(tree.At(x, "/pci0/sda")) },
		"Interface": func() []api.Device { return one(tree.Interface(x, "lan0")) },
		"Node":      func() []api.Device { return one(tree.Node(x, "sda")) },
		"Ancestors": func() []api.Device { return tree.Ancestors(x, 3) },
		"Children":  func() []api.Device { return tree.Children(x, 1) },
		"Subtree":   func() []api.Device { return tree.Subtree(x, 2) },
	} {
		l := find()
		if len(l) == 0 || len(l[0].Attrs) == 0 {
			t.Errorf("%s: got %v, without attributes", title, l)
		}
		spoilAttrs(l...)
		clear(l)
		if !equal(x.Devices, example().Devices) {
			t.Errorf("%s: the result shares memory with the tree", title)
		}
	}
}
