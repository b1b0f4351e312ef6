package kernel_test

import (
	"fmt"
	"math/rand"
	"slices"
	"strings"
	"testing"

	"coldplug/api"
	"coldplug/device"
	"coldplug/glob"
	"coldplug/kernel"
	"coldplug/name"
	"coldplug/tree"
)

// reference is a kernel as the chapter says it, word for word: it knows its devices by their origins.
type reference struct {
	modules []api.Module
	loaded  []string
	devices map[string]api.Device
	had     []int // the Indexes that devices ever had
	events  []api.Event
}

// origins returns all origins in tree order.
func (r *reference) origins() []string {
	var l []string
	for origin := range r.devices {
		l = append(l, origin)
	}
	slices.SortFunc(l, func(a, b string) int { order, _ := name.Compare(a, b); return order })
	return l
}

// tree returns the tree.
func (r *reference) tree() api.Tree {
	var t api.Tree
	for _, origin := range r.origins() {
		t.Devices = append(t.Devices, r.devices[origin])
	}
	return t
}

// path returns the path of the device with an origin.
func (r *reference) path(origin string) string {
	path := ""
	for i := 1; i <= len(origin); i++ {
		if i == len(origin) || origin[i] == '/' {
			path += "/" + r.devices[origin[:i]].Name
		}
	}
	return path
}

// emit appends an event of the device with an origin.
func (r *reference) emit(action int, origin, old string) {
	r.events = append(r.events, api.Event{Seq: len(r.events) + 1, Action: action, Index: r.devices[origin].Index, Path: r.path(origin), Old: old})
}

// drive sets the driver of a device and emits the action.
func (r *reference) drive(origin, driver string, action int) {
	d := r.devices[origin]
	d.Driver = driver
	r.devices[origin] = d
	r.emit(action, origin, "")
}

// module returns the module with a name.
func (r *reference) module(name string) (api.Module, bool) {
	for _, m := range r.modules {
		if m.Name == name {
			return m, true
		}
	}
	return api.Module{}, false
}

// matches reports whether a module matches a device.
func (r *reference) matches(module string, d api.Device) bool {
	m, _ := r.module(module)
	for _, p := range m.Aliases {
		if d.Alias != "" && glob.Match(p, d.Alias) {
			return true
		}
	}
	return false
}

// do carries out an operation.
func (r *reference) do(op api.Op) (int, api.Errno) {
	d, known := r.devices[op.Path]
	switch {
	case op.Kind < api.OpAdd || op.Kind > api.OpUnload:
		return 0, api.ErrKernelOp
	case op.Kind == api.OpAdd && op.Path != "" && !known, op.Kind > api.OpAdd && op.Kind < api.OpLoad && !known:
		return 0, api.ErrKernelNone
	}
	switch op.Kind {
	case api.OpAdd:
		return r.add(op, d.Index)
	case api.OpLoad, api.OpUnload:
		return 0, r.useModule(op)
	case api.OpSet, api.OpRename:
		return 0, r.change(op, d)
	}
	return 0, r.use(op, d)
}

func (r *reference) add(op api.Op, parent int) (int, api.Errno) {
	o := op.Device
	d := api.Device{Index: 1, Parent: parent, Name: o.Original, Original: o.Original, Subsystem: o.Subsystem, Kind: o.Kind, Number: o.Number, Alias: o.Alias, Attrs: slices.Clone(o.Attrs)}
	if len(r.had) > 0 {
		d.Index = slices.Max(r.had) + 1
	}
	if _, err := tree.Insert(r.tree(), d); err != api.OK {
		return 0, err
	}
	origin := op.Path + "/" + d.Original
	r.devices[origin] = d
	r.had = append(r.had, d.Index)
	r.emit(api.ActAdd, origin, "")
	for _, m := range r.loaded {
		if r.matches(m, d) {
			r.drive(origin, m, api.ActBind)
			break
		}
	}
	return d.Index, api.OK
}

func (r *reference) change(op api.Op, d api.Device) api.Errno {
	before, old := d, r.path(op.Path)
	if op.Kind == api.OpSet {
		if !name.Valid(op.Name) {
			return api.ErrTreeDevice
		}
		d.Attrs = device.Set(d.Attrs, op.Name, op.Value)
	} else {
		if d.Kind != api.KindNet {
			return api.ErrKernelKind
		}
		d.Name = op.Name
	}
	if _, err := tree.Change(r.tree(), d); err != api.OK {
		return err
	}
	r.devices[op.Path] = d
	if !device.Same(before, d) {
		if op.Kind == api.OpSet {
			r.emit(api.ActChange, op.Path, "")
		} else {
			r.emit(api.ActMove, op.Path, old)
		}
	}
	return api.OK
}

func (r *reference) use(op api.Op, d api.Device) api.Errno {
	switch op.Kind {
	case api.OpRemove:
		origins := r.origins()
		slices.Reverse(origins)
		var gone []string
		for _, o := range origins {
			if o == op.Path || strings.HasPrefix(o, op.Path+"/") {
				gone = append(gone, o)
				r.emit(api.ActRemove, o, "")
			}
		}
		for _, o := range gone {
			delete(r.devices, o)
		}
	case api.OpTrigger:
		r.emit(api.ActChange, op.Path, "")
	case api.OpBind:
		if d.Driver != "" {
			return api.ErrKernelBound
		}
		if !name.Valid(op.Value) {
			return api.ErrTreeDevice
		}
		r.drive(op.Path, op.Value, api.ActBind)
	case api.OpUnbind:
		if d.Driver == "" {
			return api.ErrKernelBound
		}
		r.drive(op.Path, "", api.ActUnbind)
	}
	return api.OK
}

func (r *reference) useModule(op api.Op) api.Errno {
	m, ok := r.module(op.Value)
	if !ok {
		return api.ErrKernelNone
	}
	wrong := slices.Contains(r.loaded, m.Name) != (op.Kind == api.OpUnload)
	if op.Kind == api.OpLoad {
		wrong = wrong || m.Fails
		for _, n := range m.Needs {
			wrong = wrong || !slices.Contains(r.loaded, n)
		}
	} else {
		for _, l := range r.loaded {
			other, _ := r.module(l)
			wrong = wrong || slices.Contains(other.Needs, m.Name)
		}
	}
	if wrong {
		return api.ErrKernelModule
	}
	if op.Kind == api.OpLoad {
		r.loaded = append(r.loaded, m.Name)
	} else {
		r.loaded = slices.DeleteFunc(r.loaded, func(l string) bool { return l == m.Name })
	}
	for _, origin := range r.origins() {
		d := r.devices[origin]
		if op.Kind == api.OpLoad && d.Driver == "" && r.matches(m.Name, d) {
			r.drive(origin, m.Name, api.ActBind)
		}
		if op.Kind == api.OpUnload && d.Driver == m.Name {
			r.drive(origin, "", api.ActUnbind)
		}
	}
	return api.OK
}

// pick returns an element of a list.
func pick[E any](r *rand.Rand, l ...E) E { return l[r.Intn(len(l))] }

// randomModules returns a list of modules, which need one another.
func randomModules(r *rand.Rand) []api.Module {
	var l []api.Module
	for i := range 2 + r.Intn(4) {
		m := api.Module{Name: fmt.Sprint("m", i), Fails: r.Intn(8) == 0}
		for range r.Intn(3) {
			m.Aliases = append(m.Aliases, pick(r, "a", "b", "?", "a*", "*b", "*", "", "a|ab"))
		}
		for range r.Intn(2) * r.Intn(3) {
			m.Needs = append(m.Needs, fmt.Sprint("m", r.Intn(6)))
		}
		l = append(l, m)
	}
	return l
}

// randomDevice returns a device for OpAdd, which can seldom be added.
func randomDevice(r *rand.Rand) api.Device {
	d := plain(pick(r, "a", "b", "c", "a+"), pick(r, "", "a", "b", "ab", "c"))
	switch r.Intn(5) {
	case 0:
		d.Kind = api.KindNet
	case 1:
		d.Kind, d.Number = api.KindBlock, 1+r.Intn(9)
	case 2:
		d.Kind, d.Number = api.KindChar, 1+r.Intn(9)
	}
	if r.Intn(3) == 0 {
		d.Attrs = []api.Attr{{Name: "n", Value: "1"}}
	}
	if r.Intn(20) == 0 {
		d = pick(r, api.Device{}, plain("/", ""), plain("x", "\n"), block("a!", 1), api.Device{Original: "x", Subsystem: "s"})
	}
	d.Index, d.Parent, d.Name, d.Driver = r.Intn(3), r.Intn(3), pick(r, "", "q"), pick(r, "", "m0")
	return d
}

// randomOp returns an operation, mostly for a device that there is.
func randomOp(r *rand.Rand, origins []string) api.Op {
	op := api.Op{Kind: pick(r, 1, 1, 1, 1, 2, 3, 3, 4, 5, 5, 6, 7, 8, 8, 9, 9), Path: pick(r, append(origins, "", "/none")...), Device: randomDevice(r)}
	switch op.Kind {
	case api.OpSet:
		op.Name, op.Value = pick(r, "n", "n", "o", "p", "", "/"), pick(r, "", "1", "2", "\n")
	case api.OpRename:
		op.Name = pick(r, "a", "b", "x", "y", "z", "", "x:")
	case api.OpBind:
		op.Value = pick(r, "m0", "m1", "any", "")
	case api.OpLoad, api.OpUnload:
		op.Value = pick(r, "m0", "m1", "m2", "m3", "m4", "m5")
	}
	if r.Intn(100) == 0 {
		op.Kind = pick(r, -1, 0, 10, 99)
	}
	return op
}

// forRandomScripts calls a function for operations of many kernels, each of which has a reference.
func forRandomScripts(scripts, length int, do func(k *kernel.Kernel, ref *reference, op api.Op)) {
	for seed := range scripts {
		r := rand.New(rand.NewSource(int64(seed)))
		modules := randomModules(r)
		k, _ := kernel.New(modules)
		ref := &reference{modules: modules, devices: map[string]api.Device{}}
		for range length {
			do(k, ref, randomOp(r, ref.origins()))
		}
	}
}

// P5.2, P5.3: kernels do what the reference does, and are what it is.
func TestAgainstReference(t *testing.T) {
	results, actions := map[[2]int]int{}, map[int]int{}
	forRandomScripts(300, 120, func(k *kernel.Kernel, ref *reference, op api.Op) {
		last := k.Last()
		want, wantErr := ref.do(op)
		got, err := k.Do(op)
		if got != want || err != wantErr {
			t.Fatalf("%+v: got %d, %v, want %d, %v", op, got, err, want, wantErr)
		}
		if got, want := stateOf(k), (state{ref.tree().Devices, ref.loaded, ref.events, len(ref.events)}); !same(got, want) {
			t.Fatalf("%+v: got %+v, want %+v", op, got, want)
		}
		if got := k.Events(last); !slices.Equal(got, ref.events[last:]) {
			t.Fatalf("%+v: got %+v, want %+v", op, got, ref.events[last:])
		}
		results[[2]int{op.Kind, int(err)}]++
		for _, e := range k.Events(last) {
			actions[e.Action]++
		}
	})
	for kind, errs := range map[int][]api.Errno{
		api.OpAdd: {api.OK, api.ErrKernelNone, api.ErrTreeDevice, api.ErrTreeTaken, api.ErrTreeDepth}, api.OpRemove: {api.OK, api.ErrKernelNone},
		api.OpSet: {api.OK, api.ErrKernelNone, api.ErrTreeDevice}, api.OpTrigger: {api.OK, api.ErrKernelNone},
		api.OpRename: {api.OK, api.ErrKernelNone, api.ErrKernelKind, api.ErrTreeDevice, api.ErrTreeTaken},
		api.OpBind:   {api.OK, api.ErrKernelNone, api.ErrKernelBound, api.ErrTreeDevice}, api.OpUnbind: {api.OK, api.ErrKernelNone, api.ErrKernelBound},
		api.OpLoad: {api.OK, api.ErrKernelNone, api.ErrKernelModule}, api.OpUnload: {api.OK, api.ErrKernelNone, api.ErrKernelModule}, 99: {api.ErrKernelOp},
	} {
		for _, err := range errs {
			if n := results[[2]int{kind, int(err)}]; n < 5 {
				t.Errorf("only %d times %v of %d", n, err, kind)
			}
		}
	}
	for action := api.ActAdd; action <= api.ActUnbind; action++ {
		if actions[action] < 100 {
			t.Errorf("only %d events with the action %d", actions[action], action)
		}
	}
}

// The chapter's consequences: who reads the events knows which devices there are, and which of them have drivers; the tree is valid; a refusal has no effect.
func TestEventsTellWhatThereIs(t *testing.T) {
	type reader struct {
		used, there, bound map[int]bool
	}
	readers := map[*kernel.Kernel]*reader{}
	forRandomScripts(200, 120, func(k *kernel.Kernel, ref *reference, op api.Op) {
		if readers[k] == nil {
			readers[k] = &reader{map[int]bool{}, map[int]bool{}, map[int]bool{}}
		}
		x, before := readers[k], stateOf(k)
		ref.do(op)
		if _, err := k.Do(op); err != api.OK && !same(stateOf(k), before) {
			t.Fatalf("%+v: %v, but it had an effect", op, err)
		}
		for _, e := range k.Events(before.last) {
			if e.Action == api.ActAdd && x.used[e.Index] || e.Action != api.ActAdd && !x.there[e.Index] {
				t.Fatalf("%+v: %+v", op, e)
			}
			x.used[e.Index], x.there[e.Index] = true, e.Action != api.ActRemove
			switch e.Action {
			case api.ActMove:
				if e.Old == e.Path || strings.Count(e.Old, "/") != strings.Count(e.Path, "/") {
					t.Fatalf("%+v: %+v", op, e)
				}
			case api.ActBind, api.ActUnbind:
				if x.bound[e.Index] == (e.Action == api.ActBind) {
					t.Fatalf("%+v: %+v", op, e)
				}
				x.bound[e.Index] = e.Action == api.ActBind
			}
		}
		now := k.Tree()
		if tree.Check(now) != api.OK {
			t.Fatalf("%+v: the tree is %+v", op, now)
		}
		count := 0
		for _, there := range x.there {
			if there {
				count++
			}
		}
		for _, d := range now.Devices {
			if !x.there[d.Index] || x.bound[d.Index] != (d.Driver != "") {
				t.Fatalf("%+v: the events tell something else of %+v", op, d)
			}
		}
		if count != len(now.Devices) {
			t.Fatalf("%+v: the events tell of %d devices, there are %d", op, count, len(now.Devices))
		}
	})
}
