package evaluate

import (
	"slices"

	"coldplug/api"
	"coldplug/assign"
	"coldplug/builtin"
	"coldplug/glob"
	"coldplug/helper"
	"coldplug/match"
	"coldplug/tree"
)

// Matches and assignments, by what it takes to carry them out.
type (
	staticMatch   struct{ api.Term }
	draftMatch    struct{ api.Term }
	upwardMatch   struct{ api.Term }
	programMatch  struct{ api.Term }
	programImport struct{ api.Term }
	parentImport  struct{ api.Term }
	builtinImport struct{ api.Term }

	plainAssignment    struct{ api.Term }
	expandedAssignment struct{ api.Term }
)

// matchOf returns a match as one of the types above.
func matchOf(t api.Term) any {
	switch {
	case match.Static(t):
		return staticMatch{t}
	case match.Upward(t):
		return upwardMatch{t}
	case t.Key == api.KeyProgram:
		return programMatch{t}
	case t.Key == api.KeyImport:
		return importOf(t)
	}
	return draftMatch{t}
}

// importOf returns an IMPORT as one of the types above, or nil if it has another name.
func importOf(t api.Term) any {
	switch t.Name {
	case "program":
		return programImport{t}
	case "parent":
		return parentImport{t}
	case "builtin":
		return builtinImport{t}
	}
	return nil
}

// assignmentOf returns an assignment as one of the types above.
func assignmentOf(t api.Term) any {
	switch t.Key {
	case api.KeyPriority, api.KeyLabel, api.KeyGoto:
		return plainAssignment{t}
	}
	return expandedAssignment{t}
}

// carryOut carries out a term, and reports whether it holds; all assignments do.
func (e *evaluation) carryOut(term any) bool {
	switch t := term.(type) {
	case staticMatch:
		return match.Device(t.Term, e.device)
	case draftMatch:
		return match.Draft(t.Term, e.input.Action, e.Draft)
	case upwardMatch:
		return e.climb()
	case programMatch:
		return e.program(t)
	case programImport:
		return e.importProgram(t)
	case parentImport:
		return e.importParent(t)
	case builtinImport:
		return e.importBuiltin(t)
	case plainAssignment:
		e.Draft = assign.Apply(e.Draft, t.Term, t.Value)
		return true
	case expandedAssignment:
		e.Draft = assign.Apply(e.Draft, t.Term, e.expand(t.Value))
		return true
	}
	return false
}

// climb finds the rule's ancestor when the first upward match is reached. All upward matches hold there, so that each further one has nothing left to decide.
func (e *evaluation) climb() bool {
	if e.climbed {
		return true
	}
	e.climbed = true
	index, ok := match.Ancestor(e.terms, e.input.Tree, e.input.Index)
	if ok {
		e.ancestor, _ = tree.Find(e.input.Tree, index)
	}
	return ok
}

// call runs a command, and reports whether it ended without an error.
func (e *evaluation) call(command string) (string, bool) {
	output, ticks, err := helper.Call(e.input.Helpers, e.input.Limit, e.Calls, e.expand(command))
	e.Calls++
	e.Ticks += ticks
	return output, err == api.OK
}

func (e *evaluation) program(t programMatch) bool {
	output, ok := e.call(t.Value)
	e.Result = output
	return holds(t.Term, ok)
}

func (e *evaluation) importProgram(t programImport) bool {
	output, ok := e.call(t.Value)
	e.Draft = assign.Import(e.Draft, helper.Items(output))
	return holds(t.Term, ok)
}

func (e *evaluation) importParent(t parentImport) bool {
	if len(e.above) == 0 {
		return holds(t.Term, false)
	}
	e.Draft = assign.Import(e.Draft, slices.DeleteFunc(slices.Clone(e.input.Parent.Props), func(a api.Attr) bool {
		return !glob.Match(t.Value, a.Name)
	}))
	return holds(t.Term, true)
}

func (e *evaluation) importBuiltin(t builtinImport) bool {
	found := builtin.Run(t.Value, e.input.Tree, e.input.Index)
	e.Draft = assign.Import(e.Draft, found)
	return holds(t.Term, len(found) > 0)
}

// holds reports whether a match holds that asks for success with OpIs, and for failure with OpIsNot.
func holds(t api.Term, success bool) bool { return success == (t.Op == api.OpIs) }
