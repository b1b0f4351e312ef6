// Package name checks, orders and cleans names, paths and links.
package name

import (
	"cmp"
	"strings"

	"coldplug/api"
)

// Valid reports whether s is a name.
func Valid(s string) bool {
	set := nameBytes()
	return isName(s, &set)
}

// Key reports whether s is the key of a property.
func Key(s string) bool {
	set := keyBytes()
	return s != "" && len(s) <= api.MaxName && isCapital(s[0]) && consists(s, &set)
}

// Text reports whether s is a text.
func Text(s string) bool {
	set := textBytes()
	return len(s) <= api.MaxText && consists(s, &set)
}

// Interface reports whether s may be the name of an interface.
func Interface(s string) bool {
	return len(s) <= api.MaxIface && Valid(s) && !strings.ContainsAny(s, ":!")
}

// Split returns the names of a path.
func Split(path string) ([]string, api.Errno) {
	// The path is checked before it is split, so that a long text that is no path takes no memory.
	if !isPath(path) {
		return nil, api.ErrNamePath
	}
	return strings.Split(path[1:], "/"), api.OK
}

// Join returns the path with these names.
func Join(parts []string) (string, api.Errno) {
	if len(parts) == 0 {
		return "", api.ErrNamePath
	}
	set := nameBytes()
	for _, part := range parts {
		if !isName(part, &set) {
			return "", api.ErrNamePath
		}
	}
	return "/" + strings.Join(parts, "/"), api.OK
}

// Compare orders two paths.
func Compare(a, b string) (int, api.Errno) {
	if !isPath(a) || !isPath(b) {
		return 0, api.ErrNamePath
	}
	for i := range min(len(a), len(b)) {
		if a[i] != b[i] {
			return cmp.Compare(rank(a[i]), rank(b[i])), api.OK
		}
	}
	return cmp.Compare(len(a), len(b)), api.OK
}

// Under reports whether a path lies below another one.
func Under(dir, path string) (bool, api.Errno) {
	if !isPath(dir) || !isPath(path) {
		return false, api.ErrNamePath
	}
	return Beneath(dir, path), api.OK
}

// Number returns the digits at the end of a name.
func Number(s string) string {
	start := len(s)
	for start > 0 && isDigit(s[start-1]) {
		start--
	}
	return s[start:]
}

// Clean returns a text as the name of a link.
func Clean(s string) (string, bool) {
	set := linkBytes()
	var clean []byte
	for part := range strings.SplitSeq(s, "/") {
		if part == "" || part == "." {
			continue
		}
		if part == ".." {
			return "", false
		}
		if len(clean) > 0 {
			clean = append(clean, '/')
		}
		clean = appendCleaned(clean, part, &set)
		// What is too long stays too long, whatever comes behind it.
		if len(clean) > api.MaxText {
			return "", false
		}
	}
	return string(clean), len(clean) > 0
}

// Link reports whether s is the name of a link.
func Link(s string) bool {
	if len(s) > api.MaxText {
		return false
	}
	set := linkBytes()
	for part := range strings.SplitSeq(s, "/") {
		if part == "" || isDots(part) || !consists(part, &set) {
			return false
		}
	}
	return true
}

// Beneath reports whether one link lies in a directory that another one would have to be.
func Beneath(a, b string) bool {
	return len(b) > len(a) && b[len(a)] == '/' && b[:len(a)] == a
}

// isPath reports whether path is a path.
func isPath(path string) bool {
	if path == "" || path[0] != '/' {
		return false
	}
	set := nameBytes()
	for part := range strings.SplitSeq(path[1:], "/") {
		if !isName(part, &set) {
			return false
		}
	}
	return true
}

// isName reports whether s is a name; set has the bytes of names, so that the caller makes it once for many names.
func isName(s string, set *byteSet) bool {
	return s != "" && len(s) <= api.MaxName && !isDots(s) && consists(s, set)
}

// isDots reports whether s stands for a directory itself or for the one above it.
func isDots(s string) bool {
	return s == "." || s == ".."
}

// rank orders the bytes of paths: a name that ends comes before one that goes on, whatever byte it goes on with.
func rank(b byte) int {
	if b == '/' {
		return -1
	}
	return int(b)
}

// appendCleaned appends a component to list, with "_" for each byte that it may not have.
func appendCleaned(list []byte, part string, set *byteSet) []byte {
	for i := range len(part) {
		if set[part[i]] {
			list = append(list, part[i])
		} else {
			list = append(list, '_')
		}
	}
	return list
}
