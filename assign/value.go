package assign

import (
	"slices"
	"strconv"

	"coldplug/api"
	"coldplug/grammar"
	"coldplug/name"
)

// isAssignment reports whether a term is an assignment, whatever its Value is: "0" is right for each of them, as a template, a number and a name.
func isAssignment(t api.Term) bool {
	t.Value = "0"
	return !grammar.Match(t) && grammar.Check([]api.Term{t}) == api.OK
}

// clears reports whether an assignment to a list begins with the empty list.
func clears(op int) bool { return op == api.OpAssign || op == api.OpFinal }

// replace exchanges a text for another one that is right.
func replace(s *string, value string, isRight func(string) bool) {
	if isRight(value) {
		*s = value
	}
}

// isCommand reports whether a value can stand in Run or Load.
func isCommand(value string) bool { return value != "" && name.Text(value) }

// octal reads a mode.
func octal(value string) (int, bool) {
	if len(value) > 4 {
		return 0, false
	}
	mode, err := strconv.ParseUint(value, 8, 12)
	return int(mode), err == nil
}

// number reads a priority.
func number(value string) (int, bool) {
	t := api.Term{Key: api.KeyPriority, Op: api.OpAssign, Value: value}
	if grammar.Check([]api.Term{t}) != api.OK {
		return 0, false
	}
	priority, err := strconv.Atoi(value)
	return priority, err == nil
}

// put puts a text into a list that ascends and has at most so many elements.
func put(l []string, s string, most int) []string {
	at, found := slices.BinarySearch(l, s)
	if found || len(l) >= most {
		return l
	}
	return slices.Insert(l, at, s)
}

// drop removes a text from a list that ascends.
func drop(l []string, s string) []string {
	at, found := slices.BinarySearch(l, s)
	if !found {
		return l
	}
	return slices.Delete(l, at, at+1)
}
