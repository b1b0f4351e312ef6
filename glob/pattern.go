package glob

import (
	"strings"

	"coldplug/api"
	"coldplug/name"
)

// An element is a part of an alternative: it matches one byte of its set, or any number of them if it is a star.
type element struct {
	set  byteSet
	star bool
	self bool // it is a byte that stands for itself, which its set can not tell from [a]
}

// An alternative matches a text that consists of pieces that its elements match.
type alternative []element

// compile returns the alternatives of a pattern, at least one.
func compile(p string) ([]alternative, api.Errno) {
	if len(p) > api.MaxText {
		return nil, api.ErrGlobLimit
	}
	if !name.Text(p) {
		return nil, api.ErrGlobForm
	}
	list := []alternative{make(alternative, 0, len(p))}
	for p != "" {
		if p[0] == '|' {
			list = append(list, nil)
			p = p[1:]
			continue
		}
		e, size := firstElement(p)
		if size == 0 {
			return nil, api.ErrGlobForm
		}
		last := len(list) - 1
		list[last] = append(list[last], e)
		p = p[size:]
	}
	return list, api.OK
}

// firstElement returns the element with which p begins and how many bytes of p it takes: 0 if it is none.
func firstElement(p string) (element, int) {
	switch p[0] {
	case '*':
		return element{set: textBytes(), star: true}, 1
	case '?':
		return element{set: textBytes()}, 1
	case '[':
		// No member is a "]", so the next one is the end.
		end := strings.IndexByte(p, ']')
		if end < 0 {
			return element{}, 0
		}
		set, ok := setBetween(p[1:end])
		if !ok {
			return element{}, 0
		}
		return element{set: set}, end + 1
	}
	var set byteSet
	set.add(p[0], p[0])
	return element{set: set, self: true}, 1
}

// setBetween returns the set that stands between brackets, and false if it is none.
func setBetween(s string) (byteSet, bool) {
	members, negated := strings.CutPrefix(s, "!")
	if members == "" {
		return byteSet{}, false
	}
	var set byteSet
	for members != "" {
		first, last, size := members[0], members[0], 1
		if len(members) > 2 && members[1] == '-' {
			last, size = members[2], 3
		}
		if first > last {
			return byteSet{}, false
		}
		set.add(first, last)
		members = members[size:]
	}
	if negated {
		set = textBytes().without(set)
	}
	return set, true
}

// matches reports whether the alternative matches a text. It never gives up more than the bytes of the last star: what stands before it has the earliest place that it can have.
func (a alternative) matches(s string) bool {
	at, star, read, kept := 0, -1, 0, 0
	for read < len(s) {
		switch {
		case at < len(a) && a[at].star:
			star, kept = at, read
			at++
		case at < len(a) && a[at].set.has(s[read]):
			at++
			read++
		case star >= 0 && a[star].set.has(s[kept]):
			kept++
			at, read = star+1, kept
		default:
			return false
		}
	}
	for at < len(a) && a[at].star {
		at++
	}
	return at == len(a)
}

// beginning returns the bytes that stand for themselves in front of the first other element.
func (a alternative) beginning() string {
	var text []byte
	for _, e := range a {
		if !e.self {
			break
		}
		b, _ := e.set.least()
		text = append(text, b)
	}
	return string(text)
}
