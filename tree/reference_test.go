package tree_test

import (
	"fmt"
	"math/rand"
	"reflect"
	"slices"
	"strings"
	"testing"

	"coldplug/api"
	"coldplug/device"
)

func plain(index, parent int, name string) api.Device {
	return api.Device{Index: index, Parent: parent, Name: name, Original: name, Subsystem: "s", Kind: api.KindPlain}
}

func block(index, parent int, name string, number int) api.Device {
	d := plain(index, parent, name)
	d.Kind, d.Number = api.KindBlock, number
	return d
}

func char(index, parent int, name string, number int) api.Device {
	d := plain(index, parent, name)
	d.Kind, d.Number = api.KindChar, number
	return d
}

func iface(index, parent int, original, name string) api.Device {
	d := plain(index, parent, original)
	d.Kind, d.Name = api.KindNet, name
	return d
}

// treeOf returns the tree with these devices.
func treeOf(l ...api.Device) api.Tree { return api.Tree{Devices: l} }

// example is the tree of the chapter's examples, with a few attributes.
func example() api.Tree {
	sda := block(2, 1, "sda", 8)
	sda.Attrs = []api.Attr{{Name: "removable", Value: "0"}, {Name: "size", Value: "5"}}
	lan0 := iface(5, 4, "eth0", "lan0")
	lan0.Attrs = []api.Attr{{Name: "address", Value: "52:54"}}
	return treeOf(plain(1, 0, "pci0"), sda, block(3, 2, "sda1", 9), plain(4, 0, "usb0"), lan0)
}

// chain returns n devices, each one below the one ahead, with the Indexes from 1 on.
func chain(n int) []api.Device {
	var l []api.Device
	for i := range n {
		l = append(l, plain(i+1, i, "d"))
	}
	return l
}

// roots returns n devices without parents, with the Indexes from 1 on.
func roots(n int) []api.Device {
	var l []api.Device
	for i := range n {
		l = append(l, plain(i+1, 0, fmt.Sprintf("d%03d", i)))
	}
	return l
}

// deepCopy returns a tree that shares no memory with t.
func deepCopy(t api.Tree) api.Tree {
	l := slices.Clone(t.Devices)
	for i := range l {
		l[i].Attrs = slices.Clone(l[i].Attrs)
	}
	return api.Tree{Devices: l}
}

// equal reports whether two lists have the same devices; nil and empty lists are the same.
func equal(a, b []api.Device) bool { return slices.EqualFunc(a, b, device.Same) }

// isZero reports whether a device is the zero device.
func isZero(d api.Device) bool { return reflect.ValueOf(d).IsZero() }

// indexes returns the Indexes of devices.
func indexes(l []api.Device) []int {
	var r []int
	for _, d := range l {
		r = append(r, d.Index)
	}
	return r
}

// refNames returns the names of a device's origin, or of its path.
func refNames(l []api.Device, d api.Device, part func(api.Device) string) []string {
	if d.Parent == 0 {
		return []string{part(d)}
	}
	for _, p := range l {
		if p.Index == d.Parent {
			return append(refNames(l, p, part), part(d))
		}
	}
	panic("no parent")
}

func original(d api.Device) string { return d.Original }
func present(d api.Device) string  { return d.Name }

// refClash reports whether the last part of P4.1 keeps d from being beside one of l.
func refClash(l []api.Device, d api.Device) bool {
	for _, o := range l {
		node, _ := device.Node(d)
		other, _ := device.Node(o)
		switch {
		case d.Kind == api.KindNet && o.Kind == api.KindNet && d.Name == o.Name:
			return true
		case d.Number != 0 && d.Kind == o.Kind && d.Number == o.Number:
			return true
		case node != "" && other != "" && (node == other || strings.HasPrefix(node, other+"/") || strings.HasPrefix(other, node+"/")):
			return true
		}
	}
	return false
}

// has reports whether a list has a device with this Index.
func has(l []api.Device, index int) bool { return slices.Contains(indexes(l), index) }

// refCheck is P4.1, word by word.
func refCheck(t api.Tree) api.Errno {
	if len(t.Devices) > api.MaxDevices {
		return api.ErrTreeLimit
	}
	for k, d := range t.Devices {
		ahead := t.Devices[:k]
		if device.Check(d) != api.OK {
			return api.ErrTreeDevice
		}
		if has(ahead, d.Index) {
			return api.ErrTreeTaken
		}
		if d.Parent != 0 && !has(ahead, d.Parent) {
			return api.ErrTreeParent
		}
		names := refNames(ahead, d, original)
		if len(names) > api.MaxDepth {
			return api.ErrTreeDepth
		}
		if k > 0 && slices.Compare(refNames(ahead, ahead[k-1], original), names) >= 0 {
			return api.ErrTreeOrder
		}
		if refClash(ahead, d) {
			return api.ErrTreeTaken
		}
	}
	return api.OK
}

// refInsert is P4.4, word by word.
func refInsert(t api.Tree, d api.Device) (api.Tree, api.Errno) {
	l := slices.Clone(t.Devices)
	switch {
	case device.Check(d) != api.OK:
		return api.Tree{}, api.ErrTreeDevice
	case has(l, d.Index):
		return api.Tree{}, api.ErrTreeTaken
	case d.Parent != 0 && !has(l, d.Parent):
		return api.Tree{}, api.ErrTreeParent
	case len(l) == api.MaxDevices:
		return api.Tree{}, api.ErrTreeLimit
	case len(refNames(l, d, original)) > api.MaxDepth:
		return api.Tree{}, api.ErrTreeDepth
	}
	for _, o := range l {
		if slices.Equal(refNames(l, o, original), refNames(l, d, original)) {
			return api.Tree{}, api.ErrTreeTaken
		}
	}
	if refClash(l, d) {
		return api.Tree{}, api.ErrTreeTaken
	}
	l = append(l, d)
	slices.SortFunc(l, func(a, b api.Device) int {
		return slices.Compare(refNames(l, a, original), refNames(l, b, original))
	})
	return api.Tree{Devices: l}, api.OK
}

// refChange is P4.5 for Change, word by word.
func refChange(t api.Tree, d api.Device) (api.Tree, api.Errno) {
	at := slices.Index(indexes(t.Devices), d.Index)
	if at < 0 {
		return api.Tree{}, api.ErrTreeNone
	}
	old := t.Devices[at]
	others := slices.Delete(slices.Clone(t.Devices), at, at+1)
	switch {
	case device.Check(d) != api.OK:
		return api.Tree{}, api.ErrTreeDevice
	case d.Parent != old.Parent || d.Original != old.Original || d.Kind != old.Kind:
		return api.Tree{}, api.ErrTreeParent
	case refClash(others, d):
		return api.Tree{}, api.ErrTreeTaken
	}
	return api.Tree{Devices: slices.Insert(others, at, d)}, api.OK
}

// randomName returns one of a few names whose order tells bytes from names, and among whose node names some lie beneath others.
func randomName(r *rand.Rand) string {
	names := []string{"a", "a!b", "a!b!c", "a+", "a-", "ab", "a.", "b", "b!c", "Z", "c", "d", "e!f", "g", "h", "i"}
	return names[r.Intn(len(names))]
}

// randomDevice returns a device of any kind that is often sound, below one of a tree, without a parent, or below none of the tree.
func randomDevice(r *rand.Rand, t api.Tree) api.Device {
	d := plain(1+r.Intn(60), 0, randomName(r))
	if n := len(t.Devices); n > 0 && r.Intn(4) > 0 {
		d.Parent = t.Devices[r.Intn(n)].Index
	}
	if r.Intn(20) == 0 {
		d.Parent = r.Intn(60)
	}
	switch d.Kind = 1 + r.Intn(4); d.Kind {
	case api.KindBlock, api.KindChar:
		d.Number = 1 + r.Intn(30)
	case api.KindNet:
		d.Name = randomName(r)
	}
	for _, name := range []string{"content", "size"}[:r.Intn(3)] {
		d.Attrs = append(d.Attrs, api.Attr{Name: name, Value: randomName(r)})
	}
	return d
}

// randomTree returns a valid tree, and its devices in another order, in which parents come ahead of their children, too.
func randomTree(r *rand.Rand) (api.Tree, []api.Device) {
	var t api.Tree
	var order []api.Device
	for range r.Intn(40) {
		d := randomDevice(r, t)
		if next, err := refInsert(t, d); err == api.OK {
			t, order = next, append(order, d)
		}
	}
	return t, order
}

// forRandomTrees calls a function for many valid trees, always the same ones.
func forRandomTrees(n int, do func(r *rand.Rand, t api.Tree, order []api.Device)) {
	for seed := range n {
		r := rand.New(rand.NewSource(int64(seed)))
		t, order := randomTree(r)
		do(r, t, order)
	}
}

// The trees that the other tests compare with the reference are valid, and not all of them small or flat.
func TestRandomTrees(t *testing.T) {
	most, deepest, nets := 0, 0, 0
	forRandomTrees(300, func(r *rand.Rand, x api.Tree, order []api.Device) {
		if got := refCheck(x); got != api.OK || len(order) != len(x.Devices) {
			t.Fatalf("%v: %v", x, got)
		}
		most = max(most, len(order))
		for _, d := range order {
			deepest = max(deepest, len(refNames(x.Devices, d, original)))
			if d.Name != d.Original {
				nets++
			}
		}
	})
	if most < 15 || deepest < api.MaxDepth || nets < 100 {
		t.Errorf("the greatest tree has %d devices, the deepest has a depth of %d, there are %d renamed interfaces", most, deepest, nets)
	}
}
