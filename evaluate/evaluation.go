package evaluate

import (
	"slices"

	"coldplug/api"
	"coldplug/assign"
	"coldplug/builtin"
	"coldplug/device"
	"coldplug/grammar"
	"coldplug/substitute"
	"coldplug/tree"
)

// An evaluation is what is known of a device while rules are read for it.
type evaluation struct {
	api.Draft
	input  api.Input // its tree has the device and its ancestors alone
	device api.Device
	above  []api.Device // the ancestors, the parent first
	origin string

	// What follows belongs to the rule that is read.
	terms    []api.Term
	ancestor api.Device
	climbed  bool // an upward match has been reached
}

// begin returns the evaluation of the device of an input. Other devices have no influence, so they are left out: every look at the tree is then a short one.
func begin(in api.Input) (*evaluation, bool) {
	d, ok := tree.Find(in.Tree, in.Index)
	if !ok {
		return nil, false
	}
	above := tree.Ancestors(in.Tree, in.Index)
	way := append([]api.Device{d}, above...)
	slices.Reverse(way)
	in.Tree = api.Tree{Devices: way}
	origin, _ := tree.Origin(in.Tree, in.Index)
	base := builtin.Base(in.Tree, in.Index)
	return &evaluation{Draft: assign.Begin(base), input: in, device: d, above: above, origin: origin}, true
}

// read reads rules, and returns the places of those all of whose matches held.
func (e *evaluation) read(l []api.Rule) []int {
	var held []int
	for at := 0; at < len(l); {
		if !e.readRule(l[at].Terms) {
			at++
			continue
		}
		held = append(held, at)
		at = next(l, at)
	}
	return held
}

// readRule carries out the matches of a rule up to the first one that does not hold, and its assignments if all of them hold.
func (e *evaluation) readRule(terms []api.Term) bool {
	e.terms, e.ancestor, e.climbed = terms, e.device, false
	for _, t := range terms {
		if grammar.Match(t) && !e.carryOut(matchOf(t)) {
			return false
		}
	}
	for _, t := range terms {
		if !grammar.Match(t) {
			e.carryOut(assignmentOf(t))
		}
	}
	return true
}

// next returns the place of the rule that is read behind one all of whose matches held.
func next(l []api.Rule, at int) int {
	label, jumps := valueOf(l[at].Terms, api.KeyGoto)
	for at++; jumps && at < len(l); at++ {
		if here, ok := valueOf(l[at].Terms, api.KeyLabel); ok && here == label {
			break
		}
	}
	return at
}

// valueOf returns the value of the term with a key that a rule has once at most.
func valueOf(terms []api.Term, key int) (string, bool) {
	at := slices.IndexFunc(terms, func(t api.Term) bool { return t.Key == key })
	if at < 0 {
		return "", false
	}
	return terms[at].Value, true
}

// expand fills in a template with what is known at this moment.
func (e *evaluation) expand(template string) string {
	text, _ := substitute.Expand(template, api.Values{
		Kernel:  e.device.Original,
		Devpath: e.origin,
		ID:      e.ancestor.Original,
		Driver:  e.ancestor.Driver,
		Parent:  e.parentNode(),
		Name:    e.presentName(),
		Result:  e.Result,
		Attrs:   e.device.Attrs,
		Above:   e.ancestor.Attrs,
		Env:     e.Props,
	})
	return text
}

// parentNode returns the node name of the parent, if there is one.
func (e *evaluation) parentNode() string {
	if len(e.above) == 0 {
		return ""
	}
	node, _ := device.Node(e.above[0])
	return node
}

// presentName returns the name that the rules have given so far, or the one that the kernel gave at the beginning.
func (e *evaluation) presentName() string {
	if e.Name == "" {
		return e.device.Original
	}
	return e.Name
}
