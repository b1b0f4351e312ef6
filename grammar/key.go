package grammar

import (
	"slices"
	"strings"

	"coldplug/api"
	"coldplug/name"
)

// description says which terms with a key there are: how the key is written, which names and ops it has, and which values are right. The latter may depend on the name and the op, so that it is asked for the whole term.
type description struct {
	written string
	isName  func(s string) bool
	ops     string
	isRight func(t api.Term) bool
}

// descriptions returns the descriptions of all keys, by key.
func descriptions() [api.KeyGoto + 1]description {
	return [...]description{
		api.KeyAction:     {"ACTION", isEmpty, "== !=", isGlob},
		api.KeyKernel:     {"KERNEL", isEmpty, "== !=", isGlob},
		api.KeySubsystem:  {"SUBSYSTEM", isEmpty, "== !=", isGlob},
		api.KeyDriver:     {"DRIVER", isEmpty, "== !=", isGlob},
		api.KeyAttr:       {"ATTR", name.Valid, "== !=", isGlob},
		api.KeyEnv:        {"ENV", name.Key, "== != = +=", isGlobOrTemplate},
		api.KeyTag:        {"TAG", isEmpty, "== != = += -=", isGlobOrTemplate},
		api.KeyKernels:    {"KERNELS", isEmpty, "== !=", isGlob},
		api.KeySubsystems: {"SUBSYSTEMS", isEmpty, "== !=", isGlob},
		api.KeyDrivers:    {"DRIVERS", isEmpty, "== !=", isGlob},
		api.KeyAttrs:      {"ATTRS", name.Valid, "== !=", isGlob},
		api.KeyProgram:    {"PROGRAM", isEmpty, "== !=", isTemplate},
		api.KeyResult:     {"RESULT", isEmpty, "== !=", isGlob},
		api.KeyImport:     {"IMPORT", isSource, "== !=", isImport},
		api.KeyName:       {"NAME", isEmpty, "= :=", isTemplate},
		api.KeySymlink:    {"SYMLINK", isEmpty, "= += -= :=", isTemplate},
		api.KeyOwner:      {"OWNER", isEmpty, "= :=", isTemplate},
		api.KeyGroup:      {"GROUP", isEmpty, "= :=", isTemplate},
		api.KeyMode:       {"MODE", isEmpty, "= :=", isTemplate},
		api.KeyRun:        {"RUN", isEmpty, "= += :=", isTemplate},
		api.KeyLoad:       {"LOAD", isEmpty, "+=", isTemplate},
		api.KeyPriority:   {"PRIORITY", isEmpty, "=", isPriority},
		api.KeyLabel:      {"LABEL", isEmpty, "=", isLabel},
		api.KeyGoto:       {"GOTO", isEmpty, "=", isLabel},
	}
}

// describe returns the description of a key, and false if there is no such key.
func describe(key int) (description, bool) {
	if key < api.KeyAction || key > api.KeyGoto {
		return description{}, false
	}
	return descriptions()[key], true
}

// keyOf returns the key that is written like this, or a number that is no key.
func keyOf(written string) int {
	table := descriptions()
	return slices.IndexFunc(table[:], func(d description) bool { return d.written == written })
}

// opTexts returns how the ops are written, by op.
func opTexts() [api.OpFinal + 1]string {
	return [...]string{
		api.OpIs:     "==",
		api.OpIsNot:  "!=",
		api.OpAssign: "=",
		api.OpMore:   "+=",
		api.OpLess:   "-=",
		api.OpFinal:  ":=",
	}
}

// opWritten returns how an op is written, or nothing if there is no such op.
func opWritten(op int) string {
	if op < api.OpIs || op > api.OpFinal {
		return ""
	}
	return opTexts()[op]
}

// opOf returns the op that is written like this, or a number that is no op.
func opOf(written string) int {
	texts := opTexts()
	return slices.Index(texts[:], written)
}

// hasOp reports whether the key has an op.
func (d description) hasOp(op int) bool {
	return slices.Contains(strings.Fields(d.ops), opWritten(op))
}
