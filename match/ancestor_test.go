package match_test

import (
	"math"
	"slices"
	"testing"

	"coldplug/api"
)

// chain is a tree with the devices /pci0 1, /pci0/usb1 5 with the driver hub, /pci0/usb1/usb2 3 with the driver hub, /pci0/usb1/usb2/sda 9, beside them /pci0/usb1/usb2/eth0 4 with the name lan0 and /pci0/usb1/usb9 8; and /usb0 7.
func chain() api.Tree {
	return treeOf(
		plain(1, 0, "pci0", "pci", "size", "1"),
		driven(plain(5, 1, "usb1", "usb", "size", "5", "speed", "high"), "hub"),
		driven(plain(3, 5, "usb2", "usb", "speed", "low"), "hub"),
		iface(4, 3, "eth0", "lan0"),
		block(9, 3, "sda", "size", "9"),
		plain(8, 5, "usb9", "usb", "only", "beside"),
		plain(7, 0, "usb0", "usb", "only", "beside"),
	)
}

// P12.4: the chapter's examples.
func TestAncestorExamples(t *testing.T) {
	ancestorIs(t, 1, example(), 2, is(api.KeySubsystems, "usb"))
	ancestorIs(t, 2, example(), 2, is(api.KeyKernels, "*"))
	ancestorIs(t, 0, example(), 2, is(api.KeySubsystems, "usb"), is(api.KeyKernels, "sd*"))
}

// P12.4: the device itself comes first, then the nearest ancestor, up to the root; others are not looked at.
func TestNearest(t *testing.T) {
	ancestorIs(t, 9, chain(), 9, is(api.KeySubsystems, "*"))
	ancestorIs(t, 3, chain(), 9, is(api.KeySubsystems, "usb"))
	ancestorIs(t, 3, chain(), 9, not(api.KeySubsystems, "block"))
	ancestorIs(t, 5, chain(), 9, is(api.KeyKernels, "usb1"))
	ancestorIs(t, 1, chain(), 9, is(api.KeySubsystems, "pci"))
	ancestorIs(t, 1, chain(), 9, is(api.KeyKernels, "pci0"))
	ancestorIs(t, 3, chain(), 3, is(api.KeySubsystems, "usb"))
	ancestorIs(t, 5, chain(), 5, is(api.KeySubsystems, "usb"))
	ancestorIs(t, 0, chain(), 1, is(api.KeySubsystems, "usb"))
	for _, index := range []int{1, 3, 4, 5, 9} {
		ancestorIs(t, 0, chain(), index, named(is(api.KeyAttrs, "beside"), "only"))
		ancestorIs(t, 1, chain(), index, is(api.KeyKernels, "pci?"))
	}
	ancestorIs(t, 0, chain(), 3, is(api.KeySubsystems, "block"))
	ancestorIs(t, 7, chain(), 7, is(api.KeySubsystems, "usb"))
	ancestorIs(t, 0, chain(), 7, is(api.KeySubsystems, "pci"))
}

// P12.4: all upward terms hold at one and the same device, in whatever order they stand.
func TestAllTermsAtOneDevice(t *testing.T) {
	for want, l := range map[int][]api.Term{
		9: {is(api.KeyKernels, "sd?"), is(api.KeySubsystems, "block"), is(api.KeyDrivers, ""), named(is(api.KeyAttrs, "9"), "size")},
		5: {is(api.KeySubsystems, "usb"), is(api.KeyDrivers, "hub"), named(is(api.KeyAttrs, "?"), "size")},
		3: {is(api.KeyDrivers, "hub"), named(not(api.KeyAttrs, "high"), "speed")},
		1: {not(api.KeySubsystems, "usb"), named(is(api.KeyAttrs, "[!9]"), "size")},
	} {
		for range l {
			ancestorIs(t, want, chain(), 9, l...)
			l = append(l[1:], l[0])
		}
	}
	// Each of them holds at some device on the way, but no two at the same one.
	ancestorIs(t, 0, chain(), 9, is(api.KeyKernels, "sda"), is(api.KeySubsystems, "usb"))
	ancestorIs(t, 0, chain(), 9, is(api.KeySubsystems, "usb"), is(api.KeySubsystems, "pci"))
	ancestorIs(t, 0, chain(), 9, named(is(api.KeyAttrs, "high"), "speed"), named(is(api.KeyAttrs, "low"), "speed"))
	ancestorIs(t, 0, chain(), 9, is(api.KeyKernels, "*"), not(api.KeyKernels, "*"))
}

// P12.4: an attribute that is missing is the empty text at the device where it is, not that of an ancestor.
func TestMissingAttributeOnTheWay(t *testing.T) {
	ancestorIs(t, 3, chain(), 9, named(is(api.KeyAttrs, ""), "size"))
	ancestorIs(t, 9, chain(), 9, named(is(api.KeyAttrs, ""), "speed"))
	ancestorIs(t, 3, chain(), 9, named(is(api.KeyAttrs, "?*"), "speed"))
}

// P12.4: terms that are not upward do not count, whether they hold or not; so do upward keys with the op of an assignment.
func TestOtherTermsOnTheWay(t *testing.T) {
	for _, x := range someTerms() {
		if isMatch(x, upwardKeys) {
			continue
		}
		ancestorIs(t, 9, chain(), 9, x)
		ancestorIs(t, 3, chain(), 9, x, is(api.KeySubsystems, "usb"))
		ancestorIs(t, 3, chain(), 9, is(api.KeySubsystems, "usb"), x)
		ancestorIs(t, 0, chain(), 9, is(api.KeySubsystems, "none"), x)
	}
	ancestorIs(t, 3, chain(), 9, is(api.KeyKernel, "sda"), is(api.KeyKernels, "usb?"), is(api.KeySubsystem, "usb"))
}

// P12.4: without upward terms the device itself is returned, if the tree has it.
func TestNoUpwardTerms(t *testing.T) {
	for _, l := range [][]api.Term{nil, {}, {is(api.KeyKernel, "none")}, {is(api.KeyTag, "["), {}}} {
		for _, index := range []int{1, 3, 4, 5, 7, 8, 9} {
			ancestorIs(t, index, chain(), index, l...)
		}
	}
}

// P12.4: Indexes that no device has.
func TestNoSuchDevice(t *testing.T) {
	for _, index := range []int{math.MinInt, -1, 0, 2, 6, 10, api.MaxNumber, math.MaxInt} {
		for _, x := range []api.Tree{chain(), {}, {Devices: []api.Device{}}} {
			ancestorIs(t, 0, x, index)
			ancestorIs(t, 0, x, index, is(api.KeyKernel, "*"))
			ancestorIs(t, 0, x, index, is(api.KeyKernels, "*"))
			ancestorIs(t, 0, x, index, not(api.KeyKernels, "none"))
		}
	}
}

// P12.4: present names of interfaces do not count, on the way neither.
func TestRenamedOnTheWay(t *testing.T) {
	x := treeOf(iface(1, 0, "br0", "bridge"), iface(2, 1, "eth0", "lan0"))
	ancestorIs(t, 0, x, 2, is(api.KeyKernels, "lan0|bridge"))
	ancestorIs(t, 2, x, 2, is(api.KeyKernels, "eth0|bridge"))
	ancestorIs(t, 1, x, 2, is(api.KeyKernels, "br0"))
}

// P12.4: what is no pattern holds nowhere, and its != at the device itself.
func TestWrongPatternsOnTheWay(t *testing.T) {
	for _, key := range upwardKeys {
		ancestorIs(t, 0, chain(), 9, is(key, "["))
		ancestorIs(t, 9, chain(), 9, not(key, "["))
		ancestorIs(t, 0, chain(), 9, not(key, "["), is(key, "*|[]"))
	}
}

// P12.4: the deepest tree, from each of its devices to each of its ancestors.
func TestDeepestTree(t *testing.T) {
	devices := []api.Device{plain(10, 0, "a", "s")}
	for i := 1; i < api.MaxDepth; i++ {
		devices = append(devices, plain(10+i, 10+i-1, string(rune('a'+i)), "s"))
	}
	for from := range api.MaxDepth {
		for to := range api.MaxDepth {
			want := 10 + to
			if to > from {
				want = 0
			}
			ancestorIs(t, want, treeOf(devices...), 10+from, is(api.KeyKernels, string(rune('a'+to))))
		}
	}
}

// P12.4: more upward terms than a rule has.
func TestManyTerms(t *testing.T) {
	l := slices.Repeat([]api.Term{is(api.KeySubsystems, "usb")}, 1000)
	ancestorIs(t, 3, chain(), 9, l...)
	ancestorIs(t, 5, chain(), 9, append(l, is(api.KeyKernels, "usb1"))...)
}
