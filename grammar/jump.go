package grammar

import (
	"slices"

	"coldplug/api"
)

// leftOut says of each rule whether a GOTO of it leads nowhere. It goes backwards, as a rule that is left out takes its label away from those before it.
func leftOut(l []api.Rule) []bool {
	out := make([]bool, len(l))
	labels := map[string]bool{}
	for i, r := range slices.Backward(l) {
		out[i] = leadsNowhere(r.Terms, labels)
		if out[i] {
			continue
		}
		for _, t := range r.Terms {
			if t.Key == api.KeyLabel {
				labels[t.Value] = true
			}
		}
	}
	return out
}

// leadsNowhere reports whether terms have a GOTO to none of the labels.
func leadsNowhere(l []api.Term, labels map[string]bool) bool {
	return slices.ContainsFunc(l, func(t api.Term) bool {
		return t.Key == api.KeyGoto && !labels[t.Value]
	})
}
