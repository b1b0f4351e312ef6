package compile

import (
	"cmp"
	"slices"

	"coldplug/api"
	"coldplug/glob"
	"coldplug/match"
)

// clone returns a copy of rules that shares no memory with them.
func clone(l []api.Rule) []api.Rule {
	l = slices.Clone(l)
	for i := range l {
		l[i].Terms = slices.Clone(l[i].Terms)
	}
	return l
}

// add puts a rule, whose place is behind all others so far, where it will be found.
func (p *Program) add(at int, terms []api.Term) {
	f := front(terms)
	p.fronts = append(p.fronts, f)
	if k, ok := key(f); ok {
		p.keyed[k] = append(p.keyed[k], at)
	} else {
		p.keyless = append(p.keyless, at)
	}
	if slices.ContainsFunc(terms, func(t api.Term) bool { return t.Key == api.KeyLabel }) {
		p.labelled = append(p.labelled, at)
	}
}

// front returns the static matches ahead of the first term that calls a helper or imports: up to there, reading a rule has no effect.
func front(terms []api.Term) []api.Term {
	end := slices.IndexFunc(terms, func(t api.Term) bool {
		return t.Key == api.KeyProgram || t.Key == api.KeyImport
	})
	if end < 0 {
		end = len(terms)
	}
	return slices.DeleteFunc(slices.Clone(terms[:end]), func(t api.Term) bool { return !match.Static(t) })
}

// key returns the one subsystem whose devices a rule with a front can concern, if it says so.
func key(front []api.Term) (string, bool) {
	for _, t := range front {
		if t.Key != api.KeySubsystem || t.Op != api.OpIs {
			continue
		}
		if k, ok := glob.Literal(t.Value); ok {
			return k, true
		}
	}
	return "", false
}

// holds reports whether all matches of a front hold for a device.
func holds(front []api.Term, d api.Device) bool {
	return !slices.ContainsFunc(front, func(t api.Term) bool { return !match.Device(t, d) })
}

// concerning returns the rules that can have an influence on the record of a device: its candidates, and the rules to which a GOTO can lead, as a jump ends there even if they do not hold.
func (p *Program) concerning(d api.Device) []api.Rule {
	var l []api.Rule
	for _, at := range merge(p.Candidates(d), p.labelled) {
		l = append(l, p.rules[at])
	}
	return l
}

// merge returns what is in one of two ascending lists or in both, ascending, each once.
func merge[T cmp.Ordered](a, b []T) []T {
	l := make([]T, 0, len(a)+len(b))
	for len(a) > 0 && len(b) > 0 {
		switch cmp.Compare(a[0], b[0]) {
		case -1:
			l, a = append(l, a[0]), a[1:]
		case 0:
			a = a[1:]
		case 1:
			l, b = append(l, b[0]), b[1:]
		}
	}
	return append(append(l, a...), b...)
}
