package tree_test

import (
	"strings"
	"testing"

	"coldplug/api"
	"coldplug/tree"
)

// invalidTrees are trees for which nothing is specified but Check.
func invalidTrees() map[string]api.Tree {
	long := strings.Repeat("!", 1<<12)
	var zeros, deep, huge []api.Device
	for i := range 2000 {
		deep = append(deep, plain(i+1, i, "d"))
	}
	for i := range api.MaxDevices + 1 {
		huge = append(huge, block(i+1, i, long, i))
	}
	zeros = make([]api.Device, 2000)
	return map[string]api.Tree{
		"its own parent":    treeOf(plain(1, 1, "a")),
		"two in a ring":     treeOf(plain(1, 2, "a"), plain(2, 1, "b")),
		"a long ring":       treeOf(append([]api.Device{plain(1, 2000, "d")}, deep[1:]...)...),
		"a long chain":      treeOf(deep...),
		"long names":        treeOf(huge...),
		"zero devices":      treeOf(zeros...),
		"one Index":         treeOf(plain(1, 0, "a"), plain(1, 1, "b"), plain(1, 1, "b")),
		"no parents":        treeOf(plain(1, 9, "a"), plain(2, 9, "a"), plain(-3, -9, "")),
		"descending":        treeOf(plain(3, 2, "a"), plain(2, 1, "z"), plain(1, 0, "b"), plain(5, 1, "a")),
		"names of no paths": treeOf(plain(1, 0, "/"), plain(2, 1, "a b"), plain(3, 1, "\xff"), plain(4, 0, "")),
	}
}

// R1, R4: all functions return for trees that are not valid, too, and leave them as they are.
func TestInvalidTrees(t *testing.T) {
	for title, x := range invalidTrees() {
		before := deepCopy(x)
		if got := tree.Check(x); got == api.OK {
			t.Errorf("%s: the tree is valid", title)
		}
		for _, index := range []int{-9, -3, -1, 0, 1, 2, 3, 9, 1000, 2000, 3000, -1 << 63, 1<<63 - 1} {
			tree.Find(x, index)
			tree.Origin(x, index)
			tree.Path(x, index)
			tree.Ancestors(x, index)
			tree.Children(x, index)
			tree.Subtree(x, index)
			tree.Remove(x, index)
			for _, d := range []api.Device{{}, plain(index, 1, "x"), plain(5000, index, "x"), iface(index, 0, "a", "x"), block(index, 2, "a!b", 1)} {
				tree.Insert(x, d)
				tree.Change(x, d)
			}
		}
		for _, text := range []string{"", "/", "a", "/a", "/a/b", "//", "/d/d/d", "/\xff", "/!", strings.Repeat("/d", 3000)} {
			tree.At(x, text)
			tree.Interface(x, text)
			tree.Node(x, text)
		}
		if !equal(x.Devices, before.Devices) {
			t.Errorf("%s: the tree was changed", title)
		}
	}
}
