package match_test

import (
	"math"
	"slices"
	"testing"

	"coldplug/api"
	"coldplug/match"
)

func is(key int, value string) api.Term { return api.Term{Key: key, Op: api.OpIs, Value: value} }

func not(key int, value string) api.Term { return api.Term{Key: key, Op: api.OpIsNot, Value: value} }

// named returns a term with a name in braces.
func named(t api.Term, name string) api.Term {
	t.Name = name
	return t
}

// The matches that are static, those that are upward, and those of a draft.
var (
	staticKeys = []int{api.KeyKernel, api.KeySubsystem, api.KeyDriver, api.KeyAttr}
	upwardKeys = []int{api.KeyKernels, api.KeySubsystems, api.KeyDrivers, api.KeyAttrs}
	draftKeys  = []int{api.KeyAction, api.KeyEnv, api.KeyTag, api.KeyResult}
	deviceKeys = slices.Concat(staticKeys, upwardKeys)
)

// someKeys are all keys, and numbers that are none.
func someKeys() []int {
	keys := []int{math.MinInt, -api.KeyKernel, 1 << 32, 1<<32 + api.KeyKernel, math.MaxInt}
	for key := -30; key < 60; key++ {
		keys = append(keys, key)
	}
	return keys
}

// someOps are all ops, and numbers that are none.
func someOps() []int {
	return []int{math.MinInt, -2, -1, 0, 1, 2, 3, 4, 5, 6, 7, 8, 256 + 1, math.MaxInt}
}

// someTerms are terms of all keys and ops whose glob matches everything, or nothing.
func someTerms() []api.Term {
	var list []api.Term
	for _, key := range someKeys() {
		for _, op := range someOps() {
			for _, value := range []string{"*", "no", "["} {
				list = append(list, api.Term{Key: key, Name: "size", Op: op, Value: value})
			}
		}
	}
	return list
}

// isMatch reports whether a term is a match with one of some keys.
func isMatch(t api.Term, keys []int) bool {
	return slices.Contains(keys, t.Key) && (t.Op == 1 || t.Op == 2)
}

func plain(index, parent int, name, subsystem string, attrs ...string) api.Device {
	d := api.Device{Index: index, Parent: parent, Name: name, Original: name, Subsystem: subsystem, Kind: api.KindPlain}
	for pair := range slices.Chunk(attrs, 2) {
		d.Attrs = append(d.Attrs, api.Attr{Name: pair[0], Value: pair[1]})
	}
	return d
}

func block(index, parent int, name string, attrs ...string) api.Device {
	d := plain(index, parent, name, "block", attrs...)
	d.Kind, d.Number = api.KindBlock, index
	return d
}

func iface(index, parent int, original, name string, attrs ...string) api.Device {
	d := plain(index, parent, original, "net", attrs...)
	d.Kind, d.Name = api.KindNet, name
	return d
}

// driven returns a device with a driver.
func driven(d api.Device, driver string) api.Device {
	d.Driver = driver
	return d
}

// treeOf returns the tree with these devices.
func treeOf(l ...api.Device) api.Tree { return api.Tree{Devices: l} }

// example is the tree of the chapter's examples.
func example() api.Tree {
	return treeOf(plain(1, 0, "usb0", "usb"), block(2, 1, "sda", "size", "5"))
}

// deviceIs checks what Device says of a term, and that it says the contrary with the other op.
func deviceIs(t *testing.T, want bool, x api.Term, d api.Device) {
	t.Helper()
	for _, expected := range []bool{want, !want} {
		if match.Device(x, d) != expected {
			t.Errorf("Device of %+v at %+v is not %v", x, d, expected)
		}
		x.Op = 3 - x.Op
	}
}

// draftIs checks what Draft says of a term, and that it says the contrary with the other op.
func draftIs(t *testing.T, want bool, x api.Term, action string, d api.Draft) {
	t.Helper()
	for _, expected := range []bool{want, !want} {
		if match.Draft(x, action, d) != expected {
			t.Errorf("Draft of %+v with %q and %+v is not %v", x, action, d, expected)
		}
		x.Op = 3 - x.Op
	}
}

// ancestorIs checks the Index that Ancestor returns, 0 for none.
func ancestorIs(t *testing.T, want int, x api.Tree, index int, l ...api.Term) {
	t.Helper()
	if got, ok := match.Ancestor(l, x, index); got != want || ok != (want != 0) {
		t.Errorf("Ancestor of %+v at %d in %+v: got %d and %v, want %d", l, index, x, got, ok, want)
	}
}
