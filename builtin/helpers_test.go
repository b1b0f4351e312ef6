package builtin_test

import (
	"slices"

	"coldplug/api"
	"coldplug/builtin"
)

func plain(index, parent int, name string) api.Device {
	return api.Device{Index: index, Parent: parent, Name: name, Original: name, Subsystem: "s", Kind: api.KindPlain}
}

func block(index, parent int, name string, attrs ...string) api.Device {
	d := plain(index, parent, name)
	d.Kind, d.Number, d.Attrs = api.KindBlock, index, attrsOf(attrs...)
	return d
}

func char(index, parent int, name string, attrs ...string) api.Device {
	d := block(index, parent, name, attrs...)
	d.Kind = api.KindChar
	return d
}

func iface(index, parent int, original, name string, attrs ...string) api.Device {
	d := plain(index, parent, original)
	d.Kind, d.Name, d.Attrs = api.KindNet, name, attrsOf(attrs...)
	return d
}

// attrsOf returns the attributes with names and values in turn.
func attrsOf(l ...string) []api.Attr {
	var attrs []api.Attr
	for pair := range slices.Chunk(l, 2) {
		attrs = append(attrs, api.Attr{Name: pair[0], Value: pair[1]})
	}
	return attrs
}

// treeOf returns the tree with these devices.
func treeOf(l ...api.Device) api.Tree { return api.Tree{Devices: l} }

// example is the tree of the chapter's examples.
func example() api.Tree {
	pci := plain(1, 0, "pci0")
	pci.Subsystem = "pci"
	sda1 := block(9, 1, "sda1", "content", "fs:u1:root")
	sda1.Subsystem = "block"
	return treeOf(pci, sda1)
}

// deepCopy returns a tree that shares no memory with t.
func deepCopy(t api.Tree) api.Tree {
	l := slices.Clone(t.Devices)
	for i := range l {
		l[i].Attrs = slices.Clone(l[i].Attrs)
	}
	return api.Tree{Devices: l}
}

// allOf returns what all functions find for an Index.
func allOf(x api.Tree, index int) [][]api.Attr {
	all := [][]api.Attr{builtin.Base(x, index), builtin.Path(x, index), builtin.Content(x, index), builtin.Net(x, index)}
	for _, name := range []string{"path", "content", "net", "base"} {
		all = append(all, builtin.Run(name, x, index))
	}
	return all
}
