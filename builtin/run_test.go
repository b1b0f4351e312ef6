package builtin_test

import (
	"math"
	"slices"
	"strings"
	"testing"

	"coldplug/api"
	"coldplug/builtin"
	"coldplug/device"
)

// P11.5: what is no builtin finds nothing.
func TestRunNames(t *testing.T) {
	x := treeOf(block(1, 0, "sda", "content", "fs:u1:root"), iface(2, 0, "eth0", "lan0", "index", "1"))
	for _, name := range []string{"", "Path", "PATH", "pat", "path ", " path", "paths", "Content", "contents", "Net", "nett", "ne", "base", "Base", "key", "run", "path,net", "path net", "net\x00", "ID_PATH", strings.Repeat("net", 100)} {
		for index := range 4 {
			found(t, name, builtin.Run(name, x, index), nil)
		}
	}
	for index := range 4 {
		foundAll(t, x, index)
	}
}

// P11.1 to P11.5: Indexes that no device has.
func TestNoSuchDevice(t *testing.T) {
	for _, x := range []api.Tree{{}, {Devices: []api.Device{}}, example()} {
		for _, index := range []int{math.MinInt, -9, -1, 0, 2, 8, 10, api.MaxNumber, math.MaxInt} {
			for _, got := range allOf(x, index) {
				found(t, "no device", got, nil)
			}
		}
	}
}

// R4: results share no memory with the tree or with each other, and the tree stays as it is.
func TestSharedMemory(t *testing.T) {
	x := treeOf(block(1, 0, "sda", "content", "fs:u1:root"), iface(2, 0, "eth0", "lan0", "address", "a", "index", "b", "slot", "c"))
	before := deepCopy(x)
	for index := range 3 {
		want := allOf(x, index)
		for _, got := range allOf(x, index) {
			got = got[:cap(got)]
			for i := range got {
				got[i] = api.Attr{Name: "X", Value: "X"}
			}
		}
		if !slices.EqualFunc(allOf(x, index), want, slices.Equal) {
			t.Errorf("%d: results share memory", index)
		}
	}
	if !slices.EqualFunc(x.Devices, before.Devices, device.Same) {
		t.Error("the tree was changed")
	}
}

// R1: all functions return for trees that are not valid, too, and leave them as they are.
func TestInvalidTrees(t *testing.T) {
	long := strings.Repeat("\xff:!", 1<<12)
	var deep []api.Device
	for i := range 2000 {
		deep = append(deep, plain(i+1, i, "d"))
	}
	odd := block(3, 9, "", "content", "", "content", long, "index", long)
	odd.Kind, odd.Subsystem = 7, long
	for title, x := range map[string]api.Tree{
		"its own parent": treeOf(iface(1, 1, "a", "b", "address", long)),
		"a ring":         treeOf(block(1, 2, "a", "content", long), char(2, 1, "b")),
		"a long ring":    treeOf(append([]api.Device{plain(1, 2000, "d")}, deep[1:]...)...),
		"a long chain":   treeOf(deep...),
		"long names":     treeOf(plain(1, 0, long), block(2, 1, long, "content", strings.Repeat("crypt:c(", 1<<12)), iface(3, 2, long, "")),
		"one Index":      treeOf(plain(1, 0, "a"), block(1, 1, "b"), iface(1, 1, "c", "c")),
		"zero devices":   treeOf(make([]api.Device, 300)...),
		"odd devices":    treeOf(odd, plain(-1, -2, "/"), plain(-2, -1, "")),
	} {
		before := deepCopy(x)
		for _, index := range []int{math.MinInt, -2, -1, 0, 1, 2, 3, 9, 1000, 2000, math.MaxInt} {
			if !slices.EqualFunc(allOf(x, index), allOf(x, index), slices.Equal) {
				t.Errorf("%s: two calls differ", title)
			}
		}
		if !slices.EqualFunc(x.Devices, before.Devices, device.Same) {
			t.Errorf("%s: the tree was changed", title)
		}
	}
}
