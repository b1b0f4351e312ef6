package evaluate_test

import (
	"slices"
	"strings"

	"coldplug/api"
	"coldplug/assign"
	"coldplug/builtin"
	"coldplug/glob"
	"coldplug/helper"
	"coldplug/substitute"
)

// A reading is the chapter read once more: one long loop over rules that are numbered from 0 on.
type reading struct {
	in    api.Input
	draft api.Draft
	chain []api.Device // the device, its parent and so on
	found int          // the place of the rule's ancestor in chain
	held  []int
}

func refOf(d []api.Device, index int) (api.Device, bool) {
	for _, one := range d {
		if one.Index == index {
			return one, true
		}
	}
	return api.Device{}, false
}

// refRead reads the rules for an input that is valid; false if there is no device.
func refRead(l []api.Rule, in api.Input) (reading, bool) {
	r := reading{in: in}
	for index := in.Index; index != 0; {
		d, ok := refOf(in.Tree.Devices, index)
		if !ok {
			return r, false
		}
		r.chain = append(r.chain, d)
		index = d.Parent
	}
	if len(r.chain) == 0 {
		return r, false
	}
	r.draft = assign.Begin(builtin.Base(in.Tree, in.Index))
	wait := ""
	for i, rule := range l {
		if wait != "" && !slices.ContainsFunc(rule.Terms, func(x api.Term) bool { return x.Key == api.KeyLabel && x.Value == wait }) {
			continue
		}
		wait = ""
		if !r.matches(rule.Terms) {
			continue
		}
		r.held = append(r.held, i)
		for _, x := range rule.Terms {
			switch {
			case x.Op == api.OpIs || x.Op == api.OpIsNot:
				continue
			case x.Key == api.KeyGoto:
				wait = x.Value
			case x.Key == api.KeyPriority:
				r.draft = assign.Apply(r.draft, x, x.Value)
			case x.Key != api.KeyLabel:
				r.draft = assign.Apply(r.draft, x, r.expand(x.Value))
			}
		}
	}
	return r, true
}

func (r *reading) matches(terms []api.Term) bool {
	r.found = 0
	upward := 0
	for _, x := range terms {
		if x.Op != api.OpIs && x.Op != api.OpIsNot {
			continue
		}
		is := false
		switch {
		case x.Key >= api.KeyKernels && x.Key <= api.KeyAttrs:
			upward++
			if upward > 1 {
				continue
			}
			r.found = slices.IndexFunc(r.chain, func(d api.Device) bool { return refAll(terms, d) })
			if r.found < 0 {
				return false
			}
			continue
		case x.Key >= api.KeyKernel && x.Key <= api.KeyAttr:
			is = glob.Match(x.Value, refValue(x.Key, x.Name, r.chain[0]))
		case x.Key == api.KeyAction:
			is = glob.Match(x.Value, r.in.Action)
		case x.Key == api.KeyEnv:
			is = glob.Match(x.Value, refNamed(r.draft.Props, x.Name))
		case x.Key == api.KeyTag:
			is = slices.ContainsFunc(r.draft.Tags, func(tag string) bool { return glob.Match(x.Value, tag) })
		case x.Key == api.KeyResult:
			is = glob.Match(x.Value, r.draft.Result)
		case x.Key == api.KeyProgram:
			r.draft.Result, is = r.call(x.Value)
		case x.Name == "program":
			var output string
			output, is = r.call(x.Value)
			r.draft = assign.Import(r.draft, helper.Items(output))
		case x.Name == "parent":
			is = len(r.chain) > 1
			for _, a := range r.in.Parent.Props {
				if is && glob.Match(x.Value, a.Name) {
					r.draft = assign.Import(r.draft, []api.Attr{a})
				}
			}
		case x.Name == "builtin":
			l := builtin.Run(x.Value, r.in.Tree, r.in.Index)
			is = len(l) != 0
			r.draft = assign.Import(r.draft, l)
		}
		if is && x.Op == api.OpIsNot || !is && x.Op == api.OpIs {
			return false
		}
	}
	return true
}

// refAll reports whether all upward matches hold at a device.
func refAll(terms []api.Term, d api.Device) bool {
	for _, x := range terms {
		if x.Key < api.KeyKernels || x.Key > api.KeyAttrs {
			continue
		}
		if glob.Match(x.Value, refValue(x.Key-api.KeyKernels+api.KeyKernel, x.Name, d)) != (x.Op == api.OpIs) {
			return false
		}
	}
	return true
}

// refValue is the value that a static match looks at.
func refValue(key int, name string, d api.Device) string {
	return map[int]string{api.KeyKernel: d.Original, api.KeySubsystem: d.Subsystem, api.KeyDriver: d.Driver, api.KeyAttr: refNamed(d.Attrs, name)}[key]
}

func refNamed(l []api.Attr, name string) string {
	for _, a := range l {
		if a.Name == name {
			return a.Value
		}
	}
	return ""
}

// call is helper.Call, and whether there was no error.
func (r *reading) call(template string) (string, bool) {
	command := r.expand(template)
	r.draft.Calls++
	if r.draft.Calls > 16 {
		return "", false
	}
	for _, h := range r.in.Helpers {
		if !glob.Match(h.Command, command) {
			continue
		}
		if h.Ticks > r.in.Limit {
			r.draft.Ticks += r.in.Limit
			return "", false
		}
		r.draft.Ticks += h.Ticks
		if h.Fails {
			return "", false
		}
		return h.Output, true
	}
	return "", false
}

func (r *reading) expand(template string) string {
	d, ancestor := r.chain[0], r.chain[r.found]
	v := api.Values{Kernel: d.Original, ID: ancestor.Original, Driver: ancestor.Driver, Name: d.Original, Result: r.draft.Result, Attrs: d.Attrs, Above: ancestor.Attrs, Env: r.draft.Props}
	for _, one := range r.chain {
		v.Devpath = "/" + one.Original + v.Devpath
	}
	if r.draft.Name != "" {
		v.Name = r.draft.Name
	}
	if len(r.chain) > 1 && (r.chain[1].Kind == api.KindBlock || r.chain[1].Kind == api.KindChar) {
		v.Parent = strings.ReplaceAll(r.chain[1].Original, "!", "/")
	}
	text, _ := substitute.Expand(template, v)
	return text
}
