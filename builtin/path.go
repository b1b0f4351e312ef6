package builtin

import (
	"slices"
	"strings"

	"coldplug/api"
	"coldplug/tree"
)

// Path returns the properties that tell where a device is.
func Path(t api.Tree, index int) []api.Attr {
	d, ok := tree.Find(t, index)
	if !ok {
		return nil
	}
	parts := []string{partOf(d)}
	for _, a := range tree.Ancestors(t, index) {
		parts = append(parts, partOf(a))
	}
	slices.Reverse(parts)
	path := strings.Join(parts, "-")
	path = path[:min(len(path), api.MaxText)]
	var l list
	l.add(true, "ID_PATH", path)
	l.add(true, "ID_PATH_TAG", tagOf(path))
	return l
}

// partOf returns what a device adds to the paths of itself and of all devices below it.
//
// It has the Original, so that no rename of an interface changes a path.
func partOf(d api.Device) string { return d.Subsystem + ":" + d.Original }

// tagOf returns a path with "_" in the place of every byte that is neither a letter nor a digit.
func tagOf(path string) string {
	tag := []byte(path)
	for i, b := range tag {
		if !isAlphanumeric(b) {
			tag[i] = '_'
		}
	}
	return string(tag)
}

// isAlphanumeric reports whether b is a letter or a digit.
func isAlphanumeric(b byte) bool {
	return 'A' <= b && b <= 'Z' || 'a' <= b && b <= 'z' || '0' <= b && b <= '9'
}
