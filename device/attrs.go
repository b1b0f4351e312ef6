package device

import (
	"slices"
	"strings"

	"coldplug/api"
)

// Sorted reports whether a list of attributes ascends.
func Sorted(l []api.Attr) bool {
	for i := 1; i < len(l); i++ {
		if l[i-1].Name >= l[i].Name {
			return false
		}
	}
	return true
}

// Get returns an attribute.
//
// It looks at one attribute after the other: the list need not ascend, and the first one with the name counts.
func Get(l []api.Attr, name string) (string, bool) {
	for _, a := range l {
		if a.Name == name {
			return a.Value, true
		}
	}
	return "", false
}

// Set returns a list of attributes with an attribute set or removed.
func Set(l []api.Attr, name, value string) []api.Attr {
	at, found := place(l, name)
	list := slices.Clone(l)
	switch {
	case value == "" && found:
		return without(list, at)
	case value == "":
		return list
	case found:
		list[at].Value = value
		return list
	}
	return slices.Insert(list, at, api.Attr{Name: name, Value: value})
}

// place returns where an attribute is in a list that ascends, or where it belongs, and whether it is there.
func place(l []api.Attr, name string) (int, bool) {
	return slices.BinarySearchFunc(l, name, func(a api.Attr, name string) int {
		return strings.Compare(a.Name, name)
	})
}

// without cuts an attribute out of a list, which it changes.
//
// The rest has no room behind its end, so that whoever appends to it cannot come upon what was there.
func without(l []api.Attr, at int) []api.Attr {
	end := at + copy(l[at:], l[at+1:])
	return l[:end:end]
}

// Changed returns the names of the attributes in which two lists differ.
func Changed(a, b []api.Attr) []string {
	var names []string
	for len(a) > 0 || len(b) > 0 {
		name := firstName(a, b)
		var before, now string
		before, a = take(a, name)
		now, b = take(b, name)
		if before != now {
			names = append(names, name)
		}
	}
	return names
}

// firstName returns the least name at the beginnings of two lists, not both of which are empty.
func firstName(a, b []api.Attr) string {
	if len(b) == 0 || len(a) > 0 && a[0].Name < b[0].Name {
		return a[0].Name
	}
	return b[0].Name
}

// take returns the value of the first attribute and the list behind it if it has this name, and otherwise the empty text and the whole list.
func take(l []api.Attr, name string) (string, []api.Attr) {
	if len(l) == 0 || l[0].Name != name {
		return "", l
	}
	return l[0].Value, l[1:]
}
