package match_test

import (
	"fmt"
	"math"
	"math/rand"
	"reflect"
	"slices"
	"strings"
	"testing"

	"coldplug/api"
	"coldplug/glob"
	"coldplug/match"
	"coldplug/tree"
)

// refHolds is what the chapter says of a match for a value.
func refHolds(x api.Term, value string) bool {
	switch x.Op {
	case api.OpIs:
		return glob.Match(x.Value, value)
	case api.OpIsNot:
		return !glob.Match(x.Value, value)
	}
	return false
}

// refNamed returns the value with a name in a list that has it once, or nothing.
func refNamed(l []api.Attr, name string) string {
	values := map[string]string{}
	for _, a := range l {
		values[a.Name] = a.Value
	}
	return values[name]
}

// refDevice reads P12.2 once more, key by key.
func refDevice(x api.Term, d api.Device) bool {
	switch x.Key {
	case api.KeyKernel, api.KeyKernels:
		return refHolds(x, d.Original)
	case api.KeySubsystem, api.KeySubsystems:
		return refHolds(x, d.Subsystem)
	case api.KeyDriver, api.KeyDrivers:
		return refHolds(x, d.Driver)
	case api.KeyAttr, api.KeyAttrs:
		return refHolds(x, refNamed(d.Attrs, x.Name))
	}
	return false
}

// refDraft reads P12.3 once more, key by key.
func refDraft(x api.Term, action string, d api.Draft) bool {
	switch x.Key {
	case api.KeyAction:
		return refHolds(x, action)
	case api.KeyEnv:
		return refHolds(x, refNamed(d.Props, x.Name))
	case api.KeyResult:
		return refHolds(x, d.Result)
	case api.KeyTag:
		matched := 0
		for _, tag := range d.Tags {
			if glob.Match(x.Value, tag) {
				matched++
			}
		}
		return x.Op == api.OpIs && matched > 0 || x.Op == api.OpIsNot && matched == 0
	}
	return false
}

// refAncestor reads P12.4 once more, for valid trees.
func refAncestor(l []api.Term, t api.Tree, index int) int {
	for _, d := range t.Devices {
		if d.Index != index {
			continue
		}
		all := true
		for _, x := range l {
			all = all && (!isMatch(x, upwardKeys) || refDevice(x, d))
		}
		if all {
			return d.Index
		}
		return refAncestor(l, t, d.Parent)
	}
	return 0
}

// pick returns one of some values.
func pick[T any](r *rand.Rand, l ...T) T { return l[r.Intn(len(l))] }

// randomTerm returns a term, which is a match with a key of this layer more often than not.
func randomTerm(r *rand.Rand) api.Term {
	x := api.Term{
		Key:   pick(r, slices.Concat(deviceKeys, draftKeys)...),
		Name:  pick(r, "A", "B", "C", "a", ""),
		Op:    pick(r, api.OpIs, api.OpIsNot),
		Value: pick(r, "", "*", "a*", "b|a", "[ab]?", "?", "[!a]*", "a1", "[", "*1", "|b*"),
	}
	if r.Intn(6) == 0 {
		x.Key = r.Intn(27) - 1
	}
	if r.Intn(6) == 0 {
		x.Op = r.Intn(9) - 1
	}
	return x
}

// randomAttrs returns attributes or properties that ascend.
func randomAttrs(r *rand.Rand) []api.Attr {
	var l []api.Attr
	for _, name := range []string{"A", "B", "C"} {
		if r.Intn(2) == 0 {
			l = append(l, api.Attr{Name: name, Value: pick(r, "a", "b", "a1", "c c")})
		}
	}
	return l
}

// randomDevice returns a device of any kind.
func randomDevice(r *rand.Rand, index, parent int) api.Device {
	d := plain(index, parent, pick(r, "a", "b", "c", "a1", "b1", "c1", "ab1"), pick(r, "a", "b", "ab"))
	d.Attrs, d.Driver, d.Kind = randomAttrs(r), pick(r, "", "a", "b1"), pick(r, api.KindPlain, api.KindPlain, api.KindBlock, api.KindNet)
	if d.Kind == api.KindBlock {
		d.Number = index
	}
	if d.Kind == api.KindNet {
		d.Name = pick(r, "a", "b", "lan") + fmt.Sprint(index)
	}
	return d
}

// randomTree returns a valid tree.
func randomTree(r *rand.Rand) api.Tree {
	x, indexes := api.Tree{}, []int{0}
	for range r.Intn(14) {
		index := 1 + r.Intn(30)
		// What does not fit is left out.
		if more, err := tree.Insert(x, randomDevice(r, index, pick(r, indexes...))); err == api.OK {
			x, indexes = more, append(indexes, index, index)
		}
	}
	return x
}

// randomDraft returns a draft with what matches look at.
func randomDraft(r *rand.Rand) api.Draft {
	d := api.Draft{Props: randomAttrs(r), Result: pick(r, "", "a", "b1 c"), Name: "a", Owner: "b", Group: "a1"}
	for _, tag := range []string{"a", "a1", "b", "q"} {
		if r.Intn(3) == 0 {
			d.Tags = append(d.Tags, tag)
		}
	}
	return d
}

// P12.1 to P12.3: random terms, devices and drafts against a second reading of the chapter.
func TestRandomTerms(t *testing.T) {
	r := rand.New(rand.NewSource(12))
	held := map[bool]int{}
	for range 50000 {
		x, d, draft, action := randomTerm(r), randomDevice(r, 1, 0), randomDraft(r), pick(r, "a", "b", "")
		if got := match.Device(x, d); got != refDevice(x, d) {
			t.Fatalf("Device of %+v at %+v is %v", x, d, got)
		}
		if got := match.Draft(x, action, draft); got != refDraft(x, action, draft) {
			t.Fatalf("Draft of %+v with %q and %+v is %v", x, action, draft, got)
		}
		if match.Static(x) != isMatch(x, staticKeys) || match.Upward(x) != isMatch(x, upwardKeys) {
			t.Fatalf("%+v is static: %v, upward: %v", x, match.Static(x), match.Upward(x))
		}
		held[match.Device(x, d) || match.Draft(x, action, draft)]++
	}
	if held[true] < 5000 || held[false] < 5000 {
		t.Errorf("too few terms hold, or do not: %v", held)
	}
}

// P12.4: random rules and trees against a second reading of the chapter.
func TestRandomAncestors(t *testing.T) {
	r := rand.New(rand.NewSource(13))
	found := map[string]int{}
	for range 20000 {
		x := randomTree(r)
		var l []api.Term
		for range r.Intn(5) {
			one := randomTerm(r)
			if r.Intn(3) == 0 {
				one.Key = pick(r, upwardKeys...)
			}
			l = append(l, one)
		}
		index := r.Intn(31)
		if n := len(x.Devices); n > 0 && r.Intn(6) > 0 {
			index = x.Devices[r.Intn(n)].Index
		}
		want := refAncestor(l, x, index)
		ancestorIs(t, want, x, index, l...)
		if t.Failed() {
			t.FailNow()
		}
		switch want {
		case 0:
			found["none"]++
		case index:
			found["itself"]++
		default:
			found["above"]++
		}
	}
	if found["none"] < 500 || found["itself"] < 500 || found["above"] < 500 {
		t.Errorf("too few of a kind: %v", found)
	}
}

// The chapter's consequences: of a match and the one with the other op exactly one holds.
func TestOtherOp(t *testing.T) {
	r := rand.New(rand.NewSource(14))
	for range 20000 {
		x := randomTerm(r)
		if isMatch(x, deviceKeys) {
			d := randomDevice(r, 1, 0)
			deviceIs(t, refDevice(x, d), x, d)
		}
		if isMatch(x, draftKeys) {
			d := randomDraft(r)
			draftIs(t, refDraft(x, "a", d), x, "a", d)
		}
	}
}

// The chapter's consequences: no rename of an interface changes an answer.
func TestRenames(t *testing.T) {
	r := rand.New(rand.NewSource(15))
	for range 5000 {
		x, l := randomTree(r), []api.Term{randomTerm(r), randomTerm(r)}
		renamed := copyOf(x)
		for i, d := range renamed.Devices {
			if d.Kind == api.KindNet {
				renamed.Devices[i].Name = fmt.Sprint("wan", i)
			}
		}
		for i, d := range x.Devices {
			if match.Device(l[0], d) != match.Device(l[0], renamed.Devices[i]) {
				t.Errorf("%+v holds otherwise behind a rename of %+v", l[0], d)
			}
			before, _ := match.Ancestor(l, x, d.Index)
			ancestorIs(t, before, renamed, d.Index, l...)
		}
	}
}

// copyOf returns a tree that shares no memory with t.
func copyOf(t api.Tree) api.Tree {
	l := slices.Clone(t.Devices)
	for i := range l {
		l[i].Attrs = slices.Clone(l[i].Attrs)
	}
	return api.Tree{Devices: l}
}

// R4: arguments stay as they are, and so does the room behind their ends.
func TestUnchangedArguments(t *testing.T) {
	r := rand.New(rand.NewSource(16))
	room := func() []api.Device { return append(make([]api.Device, 0, 20), chain().Devices...) }
	for range 2000 {
		l := append(make([]api.Term, 0, 9), randomTerm(r), randomTerm(r))
		d := api.Draft{Props: append(make([]api.Attr, 0, 9), randomAttrs(r)...), Tags: append(make([]string, 0, 9), "a", "b")}
		x := api.Tree{Devices: room()}
		terms, props, tags := slices.Clone(l), slices.Clone(d.Props), slices.Clone(d.Tags)
		match.Ancestor(l, x, 9)
		match.Device(l[0], x.Devices[4])
		match.Draft(l[1], "a", d)
		if !slices.Equal(l, terms) || !slices.Equal(d.Props, props) || !slices.Equal(d.Tags, tags) || !reflect.DeepEqual(x.Devices, room()) {
			t.Fatal("an argument was changed")
		}
		if l[:9][2] != (api.Term{}) || d.Props[:9][len(d.Props)] != (api.Attr{}) || d.Tags[:9][2] != "" || !reflect.DeepEqual(x.Devices[:20][7:], make([]api.Device, 13)) {
			t.Fatal("the room behind an argument was changed")
		}
	}
}

// R1: all functions return for trees that are not valid, too, and always with the same answer.
func TestInvalidTrees(t *testing.T) {
	var deep []api.Device
	for i := range 2000 {
		deep = append(deep, plain(i+1, i, "d", "s"))
	}
	long := strings.Repeat("\xff[*", 1<<12)
	for title, x := range map[string]api.Tree{
		"its own parent": treeOf(plain(1, 1, "a", "s")),
		"a ring":         treeOf(plain(1, 2, "a", "s"), plain(2, 1, "b", "s")),
		"a long ring":    treeOf(append([]api.Device{plain(1, 2000, "d", "s")}, deep[1:]...)...),
		"a long chain":   treeOf(deep...),
		"long names":     treeOf(plain(1, 0, long, long, long, long), plain(2, 1, long, "")),
		"one Index":      treeOf(plain(1, 0, "a", "s"), plain(1, 1, "b", "s")),
		"zero devices":   treeOf(make([]api.Device, 300)...),
		"odd Indexes":    treeOf(plain(-1, -2, "/", ""), plain(-2, -1, "", "/")),
	} {
		for _, index := range []int{math.MinInt, -2, -1, 0, 1, 2, 3, 1000, 2000, math.MaxInt} {
			for _, term := range []api.Term{is(api.KeyKernels, "none"), is(api.KeyKernels, "*"), not(api.KeyAttrs, ""), is(api.KeyKernel, "*"), is(api.KeyKernels, long)} {
				first, ok := match.Ancestor([]api.Term{term}, x, index)
				again, same := match.Ancestor([]api.Term{term}, x, index)
				if first != again || ok != same || !ok && first != 0 {
					t.Errorf("%s: %d and %v, then %d and %v", title, first, ok, again, same)
				}
			}
		}
	}
}
