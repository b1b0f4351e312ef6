package tree

import (
	"iter"
	"slices"
	"sort"
	"strings"

	"coldplug/api"
	"coldplug/device"
	"coldplug/name"
)

// view is a list of devices with a map from their Indexes to their places, so that parents are found at once.
type view struct {
	devices []api.Device
	places  map[int]int
}

// viewOf returns a view of the devices of a tree.
//
// It shares them, but no room behind their end, so that add cannot write into the tree's memory.
func viewOf(t api.Tree) *view {
	return &view{devices: slices.Clip(t.Devices), places: placesBy(t, indexOf)}
}

// placesBy returns a map from the keys that the devices of a tree have to their places.
func placesBy[K comparable](t api.Tree, key func(api.Device) (K, bool)) map[K]int {
	places := make(map[K]int, len(t.Devices))
	for at, d := range t.Devices {
		if k, ok := key(d); ok {
			places[k] = at
		}
	}
	return places
}

// lookup returns the device of a tree that has a key.
func lookup[K comparable](t api.Tree, wanted K, key func(api.Device) (K, bool)) (api.Device, bool) {
	at, ok := placesBy(t, key)[wanted]
	if !ok {
		return api.Device{}, false
	}
	return clone(t.Devices[at]), true
}

// indexOf is the key of all devices.
func indexOf(d api.Device) (int, bool) { return d.Index, true }

// interfaceOf is the key of interfaces.
func interfaceOf(d api.Device) (string, bool) { return d.Name, d.Kind == api.KindNet }

// add appends a device.
func (v *view) add(d api.Device) {
	v.places[d.Index] = len(v.devices)
	v.devices = append(v.devices, d)
}

// ancestors goes from the parent of a device, which need not be in the view itself, to the root.
//
// A tree that is not valid may have a ring of parents, so the way ends at the greatest depth: a device that is one too deep still has that many ancestors.
func (v *view) ancestors(d api.Device) iter.Seq[api.Device] {
	return func(yield func(api.Device) bool) {
		parent := d.Parent
		for range api.MaxDepth {
			at, ok := v.places[parent]
			if !ok || !yield(v.devices[at]) {
				return
			}
			parent = v.devices[at].Parent
		}
	}
}

// subtree goes through the device at a place and all devices below it.
//
// They are neighbours with parents ahead of children, so the first device whose parent is not among them ends it.
func (v *view) subtree(at int) iter.Seq[api.Device] {
	return func(yield func(api.Device) bool) {
		if !yield(v.devices[at]) {
			return
		}
		inside := map[int]bool{v.devices[at].Index: true}
		for _, d := range v.devices[at+1:] {
			if !inside[d.Parent] || !yield(d) {
				return
			}
			inside[d.Index] = true
		}
	}
}

// origin returns the origin of a device, which need not be in the view itself.
func (v *view) origin(d api.Device) string { return v.trail(d, originalOf) }

// trail returns the path that consists of a name for each ancestor of a device and for the device itself.
func (v *view) trail(d api.Device, nameIn func(api.Device) string) string {
	trail := "/" + nameIn(d)
	for a := range v.ancestors(d) {
		trail = "/" + nameIn(a) + trail
	}
	return trail
}

// originalOf returns the name that a device has in origins.
func originalOf(d api.Device) string { return d.Original }

// nameOf returns the name that a device has in paths.
func nameOf(d api.Device) string { return d.Name }

// depth returns the number of names of an origin.
func depth(origin string) int { return strings.Count(origin, "/") }

// place returns where the device with an origin is, or where it belongs, and whether it is there.
func (v *view) place(origin string) (int, bool) {
	at := sort.Search(len(v.devices), func(i int) bool {
		order, _ := name.Compare(v.origin(v.devices[i]), origin)
		return order >= 0
	})
	// What is no path cannot be compared, so it is not enough that the search ended here.
	return at, at < len(v.devices) && v.origin(v.devices[at]) == origin
}

// admit returns what keeps a device from joining the others, wherever it comes among them.
func (v *view) admit(d api.Device) api.Errno {
	_, taken := v.places[d.Index]
	_, known := v.places[d.Parent]
	switch {
	case device.Check(d) != api.OK:
		return api.ErrTreeDevice
	case taken:
		return api.ErrTreeTaken
	case d.Parent != 0 && !known:
		return api.ErrTreeParent
	}
	return api.OK
}

// checkNext returns what keeps a device from being the next one behind those of a view, which are a valid tree.
func (v *view) checkNext(d api.Device) api.Errno {
	if err := v.admit(d); err != api.OK {
		return err
	}
	origin := v.origin(d)
	switch {
	case depth(origin) > api.MaxDepth:
		return api.ErrTreeDepth
	case !v.endsAhead(origin):
		return api.ErrTreeOrder
	case v.clashes(d):
		return api.ErrTreeTaken
	}
	return api.OK
}

// endsAhead reports whether the last device, if there is one, comes ahead of an origin.
func (v *view) endsAhead(origin string) bool {
	if len(v.devices) == 0 {
		return true
	}
	order, _ := name.Compare(v.origin(v.devices[len(v.devices)-1]), origin)
	return order < 0
}

// clashes reports whether a device with another Index has a name, number or node name that lets this one not be beside it.
func (v *view) clashes(d api.Device) bool {
	return slices.ContainsFunc(v.devices, func(other api.Device) bool {
		return other.Index != d.Index && clash(d, other)
	})
}

// clash reports whether two devices have a name, number or node name that only one of them may have.
func clash(a, b api.Device) bool {
	if a.Kind == api.KindNet && b.Kind == api.KindNet {
		return a.Name == b.Name
	}
	nodeA, hasA := device.Node(a)
	nodeB, hasB := device.Node(b)
	if !hasA || !hasB {
		return false
	}
	return a.Kind == b.Kind && a.Number == b.Number ||
		nodeA == nodeB || name.Beneath(nodeA, nodeB) || name.Beneath(nodeB, nodeA)
}

// clone returns a device that shares no memory with d.
func clone(d api.Device) api.Device {
	d.Attrs = slices.Clone(d.Attrs)
	return d
}

// clones returns a list of devices that shares no memory with l.
func clones(l []api.Device) []api.Device {
	list := slices.Clone(l)
	for i := range list {
		list[i] = clone(list[i])
	}
	return list
}
