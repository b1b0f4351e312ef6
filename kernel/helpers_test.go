package kernel_test

import (
	"fmt"
	"reflect"
	"slices"
	"testing"

	"coldplug/api"
	"coldplug/device"
	"coldplug/kernel"
)

// state is all that can be seen of a kernel.
type state struct {
	devices []api.Device
	loaded  []string
	events  []api.Event
	last    int
}

// stateOf returns what can be seen of a kernel.
func stateOf(k *kernel.Kernel) state {
	return state{k.Tree().Devices, k.Loaded(), k.Events(0), k.Last()}
}

// same reports whether two states are equal; nil and empty lists are the same.
func same(a, b state) bool {
	return slices.EqualFunc(a.devices, b.devices, device.Same) && slices.Equal(a.loaded, b.loaded) &&
		slices.Equal(a.events, b.events) && a.last == b.last
}

// begin returns a kernel with some modules.
func begin(t *testing.T, modules ...api.Module) *kernel.Kernel {
	t.Helper()
	k, err := kernel.New(modules)
	if k == nil || err != api.OK {
		t.Fatalf("New(%v): got %v, %v", modules, k, err)
	}
	return k
}

// plain, block, char and iface return what OpAdd looks at in devices.
func plain(original, alias string) api.Device {
	return api.Device{Original: original, Subsystem: "s", Kind: api.KindPlain, Alias: alias}
}

func block(original string, number int) api.Device {
	return api.Device{Original: original, Subsystem: "block", Kind: api.KindBlock, Number: number}
}

func char(original string, number int) api.Device {
	return api.Device{Original: original, Subsystem: "tty", Kind: api.KindChar, Number: number}
}

func iface(original string) api.Device {
	return api.Device{Original: original, Subsystem: "net", Kind: api.KindNet}
}

// addOp and the like return operations.
func addOp(parent string, d api.Device) api.Op {
	return api.Op{Kind: api.OpAdd, Path: parent, Device: d}
}

func removeOp(path string) api.Op { return api.Op{Kind: api.OpRemove, Path: path} }

func setOp(path, name, value string) api.Op {
	return api.Op{Kind: api.OpSet, Path: path, Name: name, Value: value}
}

func triggerOp(path string) api.Op { return api.Op{Kind: api.OpTrigger, Path: path} }

func renameOp(path, name string) api.Op {
	return api.Op{Kind: api.OpRename, Path: path, Name: name}
}

func bindOp(path, driver string) api.Op {
	return api.Op{Kind: api.OpBind, Path: path, Value: driver}
}

func unbindOp(path string) api.Op { return api.Op{Kind: api.OpUnbind, Path: path} }

func loadOp(module string) api.Op { return api.Op{Kind: api.OpLoad, Value: module} }

func unloadOp(module string) api.Op { return api.Op{Kind: api.OpUnload, Value: module} }

// do carries out operations, none of which may fail.
func do(t *testing.T, k *kernel.Kernel, ops ...api.Op) {
	t.Helper()
	for _, op := range ops {
		before := len(k.Tree().Devices)
		index, err := k.Do(op)
		if err != api.OK || (op.Kind == api.OpAdd) != (index > 0) {
			t.Fatalf("%+v with %d devices: got %d, %v", op, before, index, err)
		}
	}
}

// refused checks that an operation has an error and no effect.
func refused(t *testing.T, k *kernel.Kernel, op api.Op, want api.Errno) {
	t.Helper()
	before := stateOf(k)
	if index, err := k.Do(op); index != 0 || err != want {
		t.Errorf("%+v: got %d, %v, want 0, %v", op, index, err, want)
	}
	if after := stateOf(k); !same(after, before) {
		t.Errorf("%+v: the state was %+v and became %+v", op, before, after)
	}
}

// texts returns the events behind one, as short texts.
func texts(k *kernel.Kernel, since int) []string {
	actions := []string{"none", "add", "remove", "change", "move", "bind", "unbind"}
	var l []string
	for _, e := range k.Events(since) {
		text := fmt.Sprintf("%d %s %d %s", e.Seq, actions[e.Action], e.Index, e.Path)
		if e.Old != "" {
			text += " was " + e.Old
		}
		l = append(l, text)
	}
	return l
}

// emits checks what a kernel emitted behind an event.
func emits(t *testing.T, k *kernel.Kernel, since int, want ...string) {
	t.Helper()
	if got := texts(k, since); !slices.Equal(got, want) {
		t.Errorf("events behind %d: got %q, want %q", since, got, want)
	}
}

// drivers returns the drivers of all devices in tree order.
func drivers(k *kernel.Kernel) []string {
	var l []string
	for _, d := range k.Tree().Devices {
		l = append(l, d.Driver)
	}
	return l
}

// deepEqual reports whether two values are equal in every part.
func deepEqual(a, b any) bool { return reflect.DeepEqual(a, b) }
