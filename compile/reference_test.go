package compile_test

import (
	"sort"
	"strings"

	"coldplug/api"
	"coldplug/glob"
)

// What follows is the chapter read once more, rule by rule.

// refValue is the value that a static match looks at.
func refValue(x api.Term, d api.Device) string {
	switch x.Key {
	case api.KeyKernel:
		return d.Original
	case api.KeySubsystem:
		return d.Subsystem
	case api.KeyDriver:
		return d.Driver
	}
	for _, a := range d.Attrs {
		if a.Name == x.Name {
			return a.Value
		}
	}
	return ""
}

// refFront returns the static matches ahead of the first PROGRAM or IMPORT.
func refFront(terms []api.Term) []api.Term {
	var l []api.Term
	for i := 0; i < len(terms) && terms[i].Key != api.KeyProgram && terms[i].Key != api.KeyImport; i++ {
		if terms[i].Key >= api.KeyKernel && terms[i].Key <= api.KeyAttr {
			l = append(l, terms[i])
		}
	}
	return l
}

func refCandidates(l []api.Rule, d api.Device) []int {
	var places []int
	for at, rule := range l {
		failed := 0
		for _, x := range refFront(rule.Terms) {
			if glob.Match(x.Value, refValue(x, d)) != (x.Op == api.OpIs) {
				failed++
			}
		}
		if failed == 0 {
			places = append(places, at)
		}
	}
	return places
}

func refKeys(l []api.Rule) []string {
	seen := map[string]bool{}
	for _, rule := range l {
		for _, x := range refFront(rule.Terms) {
			if x.Key == api.KeySubsystem && x.Op == api.OpIs && !strings.ContainsAny(x.Value, "?*[|") {
				seen[x.Value] = true
				break
			}
		}
	}
	var keys []string
	for k := range seen {
		keys = append(keys, k)
	}
	sort.Strings(keys)
	return keys
}
