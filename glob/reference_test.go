package glob_test

import "strings"

// The functions of this file read the chapter word for word and try everything out, whatever time it takes; the tests hold the package against them. They are for right patterns.

// matchesSlowly reports whether one of the alternatives of p matches s.
func matchesSlowly(p, s string) bool {
	for _, a := range splitSlowly(p) {
		if listMatches(a, s) {
			return true
		}
	}
	return false
}

// splitSlowly returns the alternatives of a pattern.
func splitSlowly(p string) []string {
	list := []string{""}
	inSet := false
	for i := range len(p) {
		if p[i] == '|' && !inSet {
			list = append(list, "")
			continue
		}
		inSet = p[i] != ']' && (inSet || p[i] == '[')
		list[len(list)-1] += p[i : i+1]
	}
	return list
}

// listMatches reports whether the elements of an alternative match s.
func listMatches(a, s string) bool {
	if a == "" {
		return s == ""
	}
	if a[0] == '*' {
		for n := 0; n <= len(s); n++ {
			if listMatches(a[1:], s[n:]) {
				return true
			}
			if n < len(s) && (s[n] < 32 || s[n] > 126) {
				return false
			}
		}
		return false
	}
	if s == "" || s[0] < 32 || s[0] > 126 {
		return false
	}
	if a[0] == '?' {
		return listMatches(a[1:], s[1:])
	}
	if a[0] != '[' {
		return a[0] == s[0] && listMatches(a[1:], s[1:])
	}
	set, rest, _ := strings.Cut(a[1:], "]")
	return isMember(set, s[0]) && listMatches(rest, s[1:])
}

// isMember reports whether b is in the set that stands between brackets.
func isMember(set string, b byte) bool {
	if set[0] == '!' {
		return !isListed(set[1:], b)
	}
	return isListed(set, b)
}

// isListed reports whether b is one of the members, or in one that is a range.
func isListed(members string, b byte) bool {
	if members == "" {
		return false
	}
	if len(members) >= 3 && members[1] == '-' {
		return members[0] <= b && b <= members[2] || isListed(members[3:], b)
	}
	return members[0] == b || isListed(members[1:], b)
}

// textsOf returns all texts of at most length bytes out of some, the least one first.
func textsOf(bytes string, length int) []string {
	texts := []string{""}
	level := texts
	for range length {
		var next []string
		for _, s := range level {
			for i := range len(bytes) {
				next = append(next, s+bytes[i:i+1])
			}
		}
		texts = append(texts, next...)
		level = next
	}
	return texts
}

// patternsOf returns all patterns of at most count pieces out of some.
func patternsOf(pieces []string, count int) []string {
	patterns := []string{""}
	level := patterns
	for range count {
		var next []string
		for _, p := range level {
			for _, piece := range pieces {
				next = append(next, p+piece)
			}
		}
		patterns = append(patterns, next...)
		level = next
	}
	return patterns
}
