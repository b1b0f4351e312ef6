package grammar

import (
	"strconv"

	"coldplug/api"
	"coldplug/glob"
	"coldplug/name"
	"coldplug/substitute"
)

// mostPriority is the greatest priority; the least one is as far below 0.
const mostPriority = 1000

// What IMPORT can import from.
const (
	fromProgram = "program"
	fromParent  = "parent"
	fromBuiltin = "builtin"
)

// isEmpty reports whether a term is written without a name.
func isEmpty(s string) bool { return s == "" }

// isSource reports whether IMPORT can import from s.
func isSource(s string) bool { return s == fromProgram || s == fromParent || s == fromBuiltin }

func isGlob(t api.Term) bool { return glob.Check(t.Value) == api.OK }

func isTemplate(t api.Term) bool { return substitute.Check(t.Value) == api.OK }

func isLabel(t api.Term) bool { return name.Valid(t.Value) }

// isGlobOrTemplate reports whether the value is right for a key that has matches and assignments.
func isGlobOrTemplate(t api.Term) bool {
	if Match(t) {
		return isGlob(t)
	}
	return isTemplate(t)
}

// isImport reports whether the value is right for what IMPORT imports from.
func isImport(t api.Term) bool {
	switch t.Name {
	case fromProgram:
		return isTemplate(t)
	case fromParent:
		return isGlob(t)
	}
	return t.Value == "path" || t.Value == "content" || t.Value == "net"
}

// isPriority reports whether the value is a number that a priority may have.
func isPriority(t api.Term) bool {
	n, err := strconv.Atoi(t.Value)
	if err != nil || strconv.Itoa(n) != t.Value {
		return false
	}
	return -mostPriority <= n && n <= mostPriority
}
