package kernel

import (
	"slices"

	"coldplug/api"
	"coldplug/glob"
	"coldplug/name"
)

// areValid reports whether a list can be that of the modules that exist.
func areValid(modules []api.Module) bool {
	if len(modules) > api.MaxModules {
		return false
	}
	for i, m := range modules {
		if !isValid(m) || find(modules[:i], m.Name) >= 0 {
			return false
		}
	}
	return true
}

// isValid reports whether a module can exist, apart from others.
func isValid(m api.Module) bool {
	isPattern := func(s string) bool { return glob.Check(s) == api.OK }
	return name.Valid(m.Name) && allAre(m.Aliases, isPattern) &&
		allAre(m.Needs, name.Valid) && allAre(m.Pre, name.Valid) && allAre(m.Post, name.Valid)
}

// allAre reports whether a list of a module is not too long and has right elements alone.
func allAre(l []string, right func(string) bool) bool {
	return len(l) <= api.MaxNeeds && !slices.ContainsFunc(l, func(s string) bool { return !right(s) })
}

// find returns the place of the module with a name, or -1.
func find(modules []api.Module, wanted string) int {
	return slices.IndexFunc(modules, func(m api.Module) bool { return m.Name == wanted })
}

// matches reports whether a module drives devices like d.
func matches(m api.Module, d api.Device) bool {
	// Patterns may match the empty alias of a device that has none.
	return d.Alias != "" && slices.ContainsFunc(m.Aliases, func(p string) bool { return glob.Match(p, d.Alias) })
}

// copyModules returns modules that share no memory with l.
func copyModules(l []api.Module) []api.Module {
	modules := slices.Clone(l)
	for i, m := range modules {
		modules[i].Aliases = slices.Clone(m.Aliases)
		modules[i].Needs = slices.Clone(m.Needs)
		modules[i].Pre = slices.Clone(m.Pre)
		modules[i].Post = slices.Clone(m.Post)
	}
	return modules
}
