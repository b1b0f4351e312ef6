package alias

import (
	"slices"

	"coldplug/api"
	"coldplug/glob"
)

// An entry says that the aliases that a pattern matches find a module.
type entry struct{ pattern, module string }

// add puts patterns that find a module into the index.
func (x *Index) add(module string, patterns ...string) {
	for _, p := range patterns {
		// What is no pattern matches nothing.
		if beginning, err := glob.Prefix(p); err == api.OK {
			x.entries[beginning] = append(x.entries[beginning], entry{p, module})
		}
	}
}

// setOf returns the set of the elements of a list.
func setOf(l []string) map[string]bool {
	set := map[string]bool{}
	for _, s := range l {
		set[s] = true
	}
	return set
}

// aliasesOf returns the alias patterns of the module with a name, and none if there is no such module.
func aliasesOf(modules []api.Module, name string) []string {
	i := slices.IndexFunc(modules, func(m api.Module) bool { return m.Name == name })
	if i < 0 {
		return nil
	}
	return modules[i].Aliases
}

// isLess reports whether a text is less than another one, where shorter ones are less.
func isLess(a, b string) bool {
	return len(a) < len(b) || len(a) == len(b) && a < b
}
