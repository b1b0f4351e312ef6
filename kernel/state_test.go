package kernel_test

import (
	"math"
	"slices"
	"testing"

	"coldplug/api"
	"coldplug/device"
	"coldplug/kernel"
)

// busy returns a kernel in which everything that can be seen is there.
func busy(t *testing.T) *kernel.Kernel {
	t.Helper()
	k := begin(t, api.Module{Name: "a", Aliases: []string{"x"}}, api.Module{Name: "b", Needs: []string{"a"}}, api.Module{Name: "c"})
	do(t, k, addOp("", plain("p", "x")), addOp("/p", iface("eth0")), setOp("/p", "n", "1"), setOp("/p", "o", "2"), setOp("/p/eth0", "n", "1"),
		loadOp("a"), loadOp("b"), renameOp("/p/eth0", "lan0"), addOp("", plain("q", "")), removeOp("/q"))
	return k
}

// P5.3: the events behind a number.
func TestEvents(t *testing.T) {
	k := busy(t)
	all := []api.Event{
		{Seq: 1, Action: api.ActAdd, Index: 1, Path: "/p"},
		{Seq: 2, Action: api.ActAdd, Index: 2, Path: "/p/eth0"},
		{Seq: 3, Action: api.ActChange, Index: 1, Path: "/p"},
		{Seq: 4, Action: api.ActChange, Index: 1, Path: "/p"},
		{Seq: 5, Action: api.ActChange, Index: 2, Path: "/p/eth0"},
		{Seq: 6, Action: api.ActBind, Index: 1, Path: "/p"},
		{Seq: 7, Action: api.ActMove, Index: 2, Path: "/p/lan0", Old: "/p/eth0"},
		{Seq: 8, Action: api.ActAdd, Index: 3, Path: "/q"},
		{Seq: 9, Action: api.ActRemove, Index: 3, Path: "/q"},
	}
	for since, want := range map[int][]api.Event{
		math.MinInt: all, -1: all, 0: all, 1: all[1:], 5: all[5:], 8: all[8:], 9: nil, 10: nil, math.MaxInt: nil,
	} {
		if got := k.Events(since); !slices.Equal(got, want) {
			t.Errorf("Events(%d): got %v, want %v", since, got, want)
		}
	}
	if got := k.Last(); got != 9 {
		t.Errorf("Last: got %d", got)
	}
	empty := begin(t)
	for _, since := range []int{math.MinInt, -1, 0, 1, math.MaxInt} {
		if got := empty.Events(since); len(got) > 0 {
			t.Errorf("Events(%d) of a new kernel: got %v", since, got)
		}
	}
}

// P5.3, R4: what is done with results does not reach the kernel, nor the results of other calls.
func TestResultsShareNothing(t *testing.T) {
	for title, spoil := range map[string]func(k *kernel.Kernel){
		"Tree": func(k *kernel.Kernel) {
			devices := k.Tree().Devices
			for i := range devices {
				_ = append(devices[i].Attrs, api.Attr{Name: "z", Value: "z"})
				clear(devices[i].Attrs)
			}
			_ = append(devices, plain("z", ""))
			clear(devices)
		},
		"Loaded": func(k *kernel.Kernel) { l := k.Loaded(); _ = append(l, "z"); clear(l) },
		"Events": func(k *kernel.Kernel) { l := k.Events(0); _ = append(l, api.Event{Seq: 99}); clear(l) },
		"some Events": func(k *kernel.Kernel) {
			l := k.Events(4)
			_ = append(l, api.Event{Seq: 99})
			clear(l)
		},
	} {
		k, other := busy(t), busy(t)
		before := stateOf(k)
		copied := k.Copy()
		spoil(k)
		do(t, k, setOp("/p", "z", "1"), addOp("", plain("r", "x")), loadOp("c"))
		do(t, other, setOp("/p", "z", "1"), addOp("", plain("r", "x")), loadOp("c"))
		if got, want := stateOf(k), stateOf(other); !same(got, want) {
			t.Errorf("%s: got %+v, want %+v", title, got, want)
		}
		if got := stateOf(copied); !same(got, before) {
			t.Errorf("%s: the copy is %+v, want %+v", title, got, before)
		}
	}
}

// P5.3: a kernel and its copy go on alone, whichever of them is used first.
func TestCopy(t *testing.T) {
	ops := []api.Op{
		addOp("", plain("r", "x")), setOp("/p", "n", "9"), setOp("/p", "o", ""), unbindOp("/p"), renameOp("/p/eth0", "wan0"),
		loadOp("c"), unloadOp("b"), unloadOp("a"), loadOp("a"), removeOp("/p"), addOp("", plain("s", "x")), triggerOp("/r"),
	}
	others := []api.Op{
		removeOp("/p/eth0"), setOp("/p", "n", "8"), addOp("", plain("t", "")), bindOp("/t", "any"), unloadOp("b"), loadOp("c"), loadOp("b"), triggerOp("/t"),
	}
	wantOps, wantOthers := busy(t), busy(t)
	do(t, wantOps, ops...)
	do(t, wantOthers, others...)
	for _, turned := range []bool{false, true} {
		first := busy(t)
		second := first.Copy()
		if got, want := stateOf(second), stateOf(first); !same(got, want) {
			t.Errorf("the copy is %+v, want %+v", got, want)
		}
		if turned {
			first, second = second, first
		}
		// One after the other, so that what one writes can be seen in the other.
		for i := range max(len(ops), len(others)) {
			do(t, first, ops[i:min(i+1, len(ops))]...)
			do(t, second, others[min(i, len(others)):min(i+1, len(others))]...)
		}
		if got, want := stateOf(first), stateOf(wantOps); !same(got, want) {
			t.Errorf("the first: got %+v, want %+v", got, want)
		}
		if got, want := stateOf(second), stateOf(wantOthers); !same(got, want) {
			t.Errorf("the second: got %+v, want %+v", got, want)
		}
		if got, want := stateOf(second.Copy()), stateOf(second); !same(got, want) {
			t.Errorf("the copy of it is %+v, want %+v", got, want)
		}
	}
}

// P5.3: no operation reaches the other one of a kernel and its copy, also where it is the first one behind Copy.
func TestCopyAtOnce(t *testing.T) {
	for _, op := range []api.Op{
		addOp("", plain("r", "x")), removeOp("/p"), setOp("/p", "n", "9"), setOp("/p", "n", ""), triggerOp("/p"), renameOp("/p/eth0", "wan0"),
		bindOp("/p/eth0", "any"), unbindOp("/p"), loadOp("c"), unloadOp("b"),
	} {
		for _, turned := range []bool{false, true} {
			k := busy(t)
			used, other := k, k.Copy()
			if turned {
				used, other = other, used
			}
			before := stateOf(other)
			do(t, used, op)
			if got := stateOf(other); !same(got, before) {
				t.Errorf("%+v: the other one is %+v, want %+v", op, got, before)
			}
			if got := stateOf(used); same(got, before) {
				t.Errorf("%+v changed nothing", op)
			}
		}
	}
}

// P5.3: Tree has all fields of the devices, in tree order.
func TestTree(t *testing.T) {
	want := []api.Device{
		{Index: 1, Name: "p", Original: "p", Subsystem: "s", Driver: "a", Alias: "x", Kind: api.KindPlain, Attrs: []api.Attr{{Name: "n", Value: "1"}, {Name: "o", Value: "2"}}},
		{Index: 2, Parent: 1, Name: "lan0", Original: "eth0", Subsystem: "net", Kind: api.KindNet, Attrs: []api.Attr{{Name: "n", Value: "1"}}},
	}
	k := busy(t)
	if got := k.Tree().Devices; !slices.EqualFunc(got, want, device.Same) {
		t.Errorf("got %+v, want %+v", got, want)
	}
	do(t, k, addOp("", plain("a", "")))
	if got := k.Tree().Devices; len(got) != 3 || got[0].Original != "a" || got[0].Index != 4 {
		t.Errorf("got %+v", got)
	}
}
