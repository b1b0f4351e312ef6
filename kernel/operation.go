package kernel

import (
	"slices"

	"coldplug/api"
	"coldplug/device"
	"coldplug/name"
	"coldplug/tree"
)

// operations returns what carries out the operations of each kind on the device that they are about.
func operations() [api.OpUnload + 1]func(*Kernel, api.Op, api.Device) api.Errno {
	return [api.OpUnload + 1]func(*Kernel, api.Op, api.Device) api.Errno{
		api.OpAdd:     (*Kernel).add,
		api.OpRemove:  (*Kernel).remove,
		api.OpSet:     (*Kernel).set,
		api.OpTrigger: (*Kernel).trigger,
		api.OpRename:  (*Kernel).rename,
		api.OpBind:    (*Kernel).bind,
		api.OpUnbind:  (*Kernel).unbind,
		api.OpLoad:    (*Kernel).load,
		api.OpUnload:  (*Kernel).unload,
	}
}

// add inserts a device below another, or as a root if that is the zero device.
func (k *Kernel) add(op api.Op, parent api.Device) api.Errno {
	d := op.Device
	d.Index, d.Parent, d.Name, d.Driver = k.greatest+1, parent.Index, d.Original, ""
	t, err := tree.Insert(k.tree, d)
	if err != api.OK {
		return err
	}
	k.tree, k.greatest = t, d.Index
	k.emit(k.event(api.ActAdd, d.Index))
	fits := func(m api.Module) bool { return matches(m, d) }
	if i := slices.IndexFunc(k.loaded, fits); i >= 0 {
		k.drive(d.Index, k.loaded[i].Name)
	}
	return api.OK
}

// remove takes a device and all devices below it out of the tree, the last one first.
func (k *Kernel) remove(_ api.Op, d api.Device) api.Errno {
	var gone []api.Event
	for _, below := range slices.Backward(tree.Subtree(k.tree, d.Index)) {
		// Paths are those ahead of the operation, so the events are made while all devices are there.
		gone = append(gone, k.event(api.ActRemove, below.Index))
	}
	t, err := tree.Remove(k.tree, d.Index)
	if err != api.OK {
		return err
	}
	k.tree = t
	k.emit(gone...)
	return api.OK
}

// set gives an attribute a value.
func (k *Kernel) set(op api.Op, d api.Device) api.Errno {
	if !name.Valid(op.Name) {
		return api.ErrTreeDevice
	}
	changed := d
	changed.Attrs = device.Set(d.Attrs, op.Name, op.Value)
	if device.Same(changed, d) {
		return api.OK
	}
	if err := k.change(changed); err != api.OK {
		return err
	}
	k.emit(k.event(api.ActChange, d.Index))
	return api.OK
}

// trigger says that a device changed.
func (k *Kernel) trigger(_ api.Op, d api.Device) api.Errno {
	k.emit(k.event(api.ActChange, d.Index))
	return api.OK
}

// rename gives an interface another name.
func (k *Kernel) rename(op api.Op, d api.Device) api.Errno {
	if d.Kind != api.KindNet {
		return api.ErrKernelKind
	}
	if d.Name == op.Name {
		return api.OK
	}
	old, _ := tree.Path(k.tree, d.Index)
	d.Name = op.Name
	if err := k.change(d); err != api.OK {
		return err
	}
	move := k.event(api.ActMove, d.Index)
	move.Old = old
	k.emit(move)
	return api.OK
}

// bind gives a device a driver, of which there need not be a module.
func (k *Kernel) bind(op api.Op, d api.Device) api.Errno {
	switch {
	case d.Driver != "":
		return api.ErrKernelBound
	case !name.Valid(op.Value):
		return api.ErrTreeDevice
	}
	k.drive(d.Index, op.Value)
	return api.OK
}

// unbind takes its driver from a device.
func (k *Kernel) unbind(_ api.Op, d api.Device) api.Errno {
	if d.Driver == "" {
		return api.ErrKernelBound
	}
	k.drive(d.Index, "")
	return api.OK
}

// load loads a module, which gets the devices that it matches and that have no driver.
func (k *Kernel) load(op api.Op, _ api.Device) api.Errno {
	i := find(k.modules, op.Value)
	if i < 0 {
		return api.ErrKernelNone
	}
	m := k.modules[i]
	lacks := func(need string) bool { return find(k.loaded, need) < 0 }
	if !lacks(m.Name) || m.Fails || slices.ContainsFunc(m.Needs, lacks) {
		return api.ErrKernelModule
	}
	k.loaded = append(k.loaded, m)
	for _, d := range k.tree.Devices {
		if d.Driver == "" && matches(m, d) {
			k.drive(d.Index, m.Name)
		}
	}
	return api.OK
}

// unload unloads a module, which loses its devices.
func (k *Kernel) unload(op api.Op, _ api.Device) api.Errno {
	if find(k.modules, op.Value) < 0 {
		return api.ErrKernelNone
	}
	i := find(k.loaded, op.Value)
	hasNeed := func(m api.Module) bool { return slices.Contains(m.Needs, op.Value) }
	if i < 0 || slices.ContainsFunc(k.loaded, hasNeed) {
		return api.ErrKernelModule
	}
	k.loaded = slices.Delete(k.loaded, i, i+1)
	for _, d := range k.tree.Devices {
		if d.Driver == op.Value {
			k.drive(d.Index, "")
		}
	}
	return api.OK
}

// change exchanges a device of the tree.
func (k *Kernel) change(d api.Device) api.Errno {
	t, err := tree.Change(k.tree, d)
	if err == api.OK {
		k.tree = t
	}
	return err
}

// drive sets the driver of a device, or takes it away if driver is empty.
func (k *Kernel) drive(index int, driver string) {
	hasIndex := func(d api.Device) bool { return d.Index == index }
	k.tree.Devices[slices.IndexFunc(k.tree.Devices, hasIndex)].Driver = driver
	if driver == "" {
		k.emit(k.event(api.ActUnbind, index))
		return
	}
	k.emit(k.event(api.ActBind, index))
}

// event returns an event of a device with its present path, without a number.
func (k *Kernel) event(action, index int) api.Event {
	path, _ := tree.Path(k.tree, index)
	return api.Event{Action: action, Index: index, Path: path}
}

// emit appends events with the numbers that come next.
func (k *Kernel) emit(events ...api.Event) {
	for _, e := range events {
		e.Seq = len(k.events) + 1
		k.events = append(k.events, e)
	}
}
