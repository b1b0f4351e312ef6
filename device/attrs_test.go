package device_test

import (
	"maps"
	"slices"
	"testing"

	"coldplug/api"
	"coldplug/device"
)

// lists returns all lists that ascend with some of the names a, b and c, and with some of the values, of which one is empty.
func lists() [][]api.Attr {
	all := [][]api.Attr{nil}
	for _, name := range []string{"a", "b", "c"} {
		for _, l := range all {
			for _, value := range []string{"", "1", "2"} {
				all = append(all, append(slices.Clone(l), api.Attr{Name: name, Value: value}))
			}
		}
	}
	return all
}

// values returns a list as a map.
func values(l []api.Attr) map[string]string {
	m := map[string]string{}
	for _, a := range l {
		m[a.Name] = a.Value
	}
	return m
}

// roomy returns a copy of a list with room behind its end, and all of the memory.
func roomy(l []api.Attr) (list, memory []api.Attr) {
	memory = append(slices.Clone(l), attrs("room", "1", "room", "2", "room", "3")...)
	return memory[:len(l)], memory
}

// P3.2: each name must be greater than the one ahead, byte by byte.
func TestSorted(t *testing.T) {
	for _, c := range []struct {
		names []string
		want  bool
	}{
		{nil, true},
		{[]string{"b"}, true},
		{[]string{"a", "b"}, true},
		{[]string{"b", "a"}, false},
		{[]string{"a", "a"}, false},
		{[]string{"B", "a"}, true},
		{[]string{"a", "B"}, false},
		{[]string{"a", "aa", "b"}, true},
		{[]string{"aa", "a"}, false},
		{[]string{"", "a"}, true},
		{[]string{"", ""}, false},
		{[]string{"a9", "a10"}, false},
		{[]string{"a", "b", "c", "b"}, false},
		{[]string{"b", "a", "c", "d"}, false},
		{[]string{"z", "\xff"}, true},
	} {
		var l []api.Attr
		for _, name := range c.names {
			l = append(l, api.Attr{Name: name})
		}
		if got := device.Sorted(l); got != c.want {
			t.Errorf("Sorted of %q: got %v, want %v", c.names, got, c.want)
		}
	}
}

// P3.2: in lists that ascend and in others, the first attribute with the name is got.
func TestGet(t *testing.T) {
	for _, c := range []struct {
		l     []api.Attr
		name  string
		value string
		ok    bool
	}{
		{nil, "a", "", false},
		{nil, "", "", false},
		{attrs("a", "1", "c", "3"), "a", "1", true},
		{attrs("a", "1", "c", "3"), "c", "3", true},
		{attrs("a", "1", "c", "3"), "b", "", false},
		{attrs("a", "1", "c", "3"), "", "", false},
		{attrs("a", "1", "c", "3"), "aa", "", false},
		{attrs("a", ""), "a", "", true},
		{attrs("", "1"), "", "1", true},
		{attrs("c", "3", "b", "2", "a", "1"), "c", "3", true},
		{attrs("c", "3", "b", "2", "a", "1"), "a", "1", true},
		{attrs("b", "0", "a", "1", "a", "2", "a", "3", "b", "4"), "a", "1", true},
		{attrs("b", "0", "a", "1", "a", "2", "a", "3", "b", "4"), "b", "0", true},
	} {
		if got, ok := device.Get(c.l, c.name); got != c.value || ok != c.ok {
			t.Errorf("Get of %q in %v: got %q, %v, want %q, %v", c.name, c.l, got, ok, c.value, c.ok)
		}
	}
}

// P3.3: the examples, and what is neither checked nor limited.
func TestSet(t *testing.T) {
	full := many(api.MaxAttrs)
	for _, c := range []struct {
		l           []api.Attr
		name, value string
		want        []api.Attr
	}{
		{attrs("a", "1", "c", "3"), "b", "2", attrs("a", "1", "b", "2", "c", "3")},
		{attrs("a", "1"), "a", "", nil},
		{nil, "a", "1", attrs("a", "1")},
		{nil, "a", "", nil},
		{attrs("a", "1", "b", "2", "c", "3"), "b", "", attrs("a", "1", "c", "3")},
		{attrs("a", "1", "b", "2", "c", "3"), "c", "", attrs("a", "1", "b", "2")},
		{attrs("a", "1", "b", "2"), "B", "3", attrs("B", "3", "a", "1", "b", "2")},
		{attrs("a", "1"), "", "3", attrs("", "3", "a", "1")},
		{attrs("a", "1"), "b/c d", "\n", attrs("a", "1", "b/c d", "\n")},
		{full, "b", "1", append(slices.Clone(full), api.Attr{Name: "b", Value: "1"})},
	} {
		if got := device.Set(c.l, c.name, c.value); !slices.Equal(got, c.want) {
			t.Errorf("Set of %q to %q in %v: got %v, want %v", c.name, c.value, c.l, got, c.want)
		}
	}
}

// P3.3: against a map, for all short lists; the result ascends, and nothing else changes.
func TestSetAgainstMap(t *testing.T) {
	for _, l := range lists() {
		for _, name := range []string{"", "a", "aa", "b", "bb", "c", "d"} {
			for _, value := range []string{"", "1", "3"} {
				want := values(l)
				want[name] = value
				if value == "" {
					delete(want, name)
				}
				got := device.Set(l, name, value)
				if !maps.Equal(values(got), want) || !device.Sorted(got) {
					t.Errorf("Set of %q to %q in %v: got %v", name, value, l, got)
				}
			}
		}
	}
}

// P3.3, R4: the list stays as it is, its room too, and the result shares no memory with it.
func TestSetMemory(t *testing.T) {
	for _, l := range lists() {
		for _, name := range []string{"", "a", "b", "c", "d"} {
			for _, value := range []string{"", "1", "3"} {
				list, memory := roomy(l)
				before := slices.Clone(memory)
				got := device.Set(list, name, value)
				for i := range got {
					got[i] = api.Attr{Name: "changed"}
				}
				_ = append(got, attrs("more", "1", "more", "2")...)
				if !slices.Equal(memory, before) {
					t.Fatalf("Set of %q to %q in %v changed %v to %v", name, value, l, before, memory)
				}
			}
		}
	}
}

// P3.3: a list that was cut has no room, in which what was cut off could be seen.
func TestCutListHasNoRoom(t *testing.T) {
	list, _ := roomy(attrs("a", "1", "b", "2", "c", "3"))
	for _, name := range []string{"a", "b", "c"} {
		if got := device.Set(list, name, ""); len(got) != 2 || cap(got) != 2 {
			t.Errorf("Set of %q to nothing: length %d, room for %d", name, len(got), cap(got))
		}
	}
}

// P3.4: the example and names at the ends of lists.
func TestChanged(t *testing.T) {
	for _, c := range []struct {
		a, b []api.Attr
		want []string
	}{
		{attrs("a", "1", "b", "2"), attrs("a", "1", "b", "3", "c", "4"), []string{"b", "c"}},
		{nil, nil, nil},
		{attrs("a", "1"), attrs("b", "1"), []string{"a", "b"}},
		{attrs("b", "1"), attrs("a", "1"), []string{"a", "b"}},
		{attrs("a", "", "b", "1"), attrs("b", "1", "c", ""), nil},
		{attrs("", "1", "B", "1"), attrs("a", "1"), []string{"", "B", "a"}},
	} {
		if got := device.Changed(c.a, c.b); !slices.Equal(got, c.want) {
			t.Errorf("Changed of %v and %v: got %q, want %q", c.a, c.b, got, c.want)
		}
	}
}

// P3.4: against maps, for all pairs of short lists, which stay as they are.
func TestChangedAgainstMaps(t *testing.T) {
	all := lists()
	for _, a := range all {
		for _, b := range all {
			var want []string
			for _, name := range []string{"a", "b", "c"} {
				if values(a)[name] != values(b)[name] {
					want = append(want, name)
				}
			}
			oldA, oldB := slices.Clone(a), slices.Clone(b)
			if got := device.Changed(a, b); !slices.Equal(got, want) {
				t.Errorf("Changed of %v and %v: got %q, want %q", a, b, got, want)
			}
			if !slices.Equal(a, oldA) || !slices.Equal(b, oldB) {
				t.Fatalf("Changed changed %v or %v", oldA, oldB)
			}
		}
	}
}

// R1: lists that do not ascend do no harm to the functions that are not specified for them.
func TestListsThatDoNotAscend(t *testing.T) {
	l := attrs("c", "1", "a", "", "a", "2", "", "3", "c", "4")
	for _, name := range []string{"", "a", "b", "c", "d"} {
		for _, value := range []string{"", "1"} {
			device.Set(l, name, value)
		}
	}
	device.Changed(l, attrs("b", "1", "a", "1"))
	device.Changed(nil, l)
	if want := attrs("c", "1", "a", "", "a", "2", "", "3", "c", "4"); !slices.Equal(l, want) {
		t.Errorf("the list was changed to %v", l)
	}
}
