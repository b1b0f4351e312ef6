package alias_test

import (
	"slices"
	"strconv"
	"strings"
	"testing"

	"coldplug/api"
)

// numbered returns so many modules with different names.
func numbered(n int) []api.Module {
	var l []api.Module
	for i := range n {
		l = append(l, module("m"+strconv.Itoa(i), "a*"))
	}
	return l
}

// P18.1: the lists of a configuration have at most as many elements as there may be modules.
func TestCheckLengths(t *testing.T) {
	for _, n := range []int{0, 1, 127, 128, 129, 130, 1000} {
		want := api.OK
		if n > 128 {
			want = api.ErrModuleConfig
		}
		texts, pairs := slices.Repeat([]string{"a"}, n), slices.Repeat(extras("a", "b"), n)
		checked(t, "Modules", api.Config{Modules: numbered(n)}, want)
		checked(t, "Blocked", api.Config{Blocked: texts}, want)
		checked(t, "Off", api.Config{Off: texts}, want)
		checked(t, "Keep", api.Config{Keep: texts}, want)
		checked(t, "Extra", api.Config{Extra: pairs}, want)
		checked(t, "all lists", api.Config{Modules: numbered(n), Blocked: texts, Off: texts, Keep: texts, Extra: pairs}, want)
		checked(t, "all lists but Modules", api.Config{Modules: numbered(128), Blocked: texts, Off: texts, Keep: texts, Extra: pairs}, want)
	}
}

// P18.1: Modules are a valid list of modules.
func TestCheckModules(t *testing.T) {
	most := strings.Repeat("n", 32)
	for title, c := range map[string]struct {
		modules []api.Module
		want    api.Errno
	}{
		"none":              {nil, api.OK},
		"two":               {[]api.Module{module("a", "usb:*", ""), module("b")}, api.OK},
		"longest name":      {[]api.Module{module(most)}, api.OK},
		"longer name":       {[]api.Module{module(most + "n")}, api.ErrModuleConfig},
		"no name":           {[]api.Module{module("")}, api.ErrModuleConfig},
		"dots":              {[]api.Module{module("..")}, api.ErrModuleConfig},
		"a slash":           {[]api.Module{module("a"), module("b/c")}, api.ErrModuleConfig},
		"equal names":       {[]api.Module{module("a"), module("b"), module("a")}, api.ErrModuleConfig},
		"names that differ": {[]api.Module{module("a"), module("A"), module("aa")}, api.OK},
		"open set":          {[]api.Module{module("a", "b", "[")}, api.ErrModuleConfig},
		"empty set":         {[]api.Module{module("a", "[]")}, api.ErrModuleConfig},
		"wrong range":       {[]api.Module{module("b"), module("a", "[b-a]")}, api.ErrModuleConfig},
		"wrong byte":        {[]api.Module{module("a", "b\x00")}, api.ErrModuleConfig},
		"longest pattern":   {[]api.Module{module("a", strings.Repeat("p", 256))}, api.OK},
		"longer pattern":    {[]api.Module{module("a", strings.Repeat("p", 257))}, api.ErrModuleConfig},
		"fails":             {[]api.Module{{Name: "a", Fails: true}}, api.OK},
	} {
		checked(t, title, api.Config{Modules: c.modules}, c.want)
	}
}

// P18.1: the lists of a module are limited, and have names that need not be those of modules.
func TestCheckLists(t *testing.T) {
	for _, n := range []int{0, 15, 16, 17, 100} {
		want := api.OK
		if n > 16 {
			want = api.ErrModuleConfig
		}
		l := slices.Repeat([]string{"gone"}, n)
		for _, m := range []api.Module{{Aliases: l}, {Needs: l}, {Pre: l}, {Post: l}, {Aliases: l, Needs: l, Pre: l, Post: l}} {
			m.Name = "b"
			checked(t, "lists of "+strconv.Itoa(n), config(module("a"), m), want)
		}
	}
	for s, want := range map[string]api.Errno{"a": api.OK, "b": api.OK, "gone": api.OK, "": api.ErrModuleConfig, ".": api.ErrModuleConfig, "a*": api.ErrModuleConfig, strings.Repeat("n", 33): api.ErrModuleConfig} {
		for _, m := range []api.Module{{Needs: []string{"a", s}}, {Pre: []string{"a", s}}, {Post: []string{"a", s}}} {
			m.Name = "b"
			checked(t, "an element "+s, config(module("a"), m), want)
		}
	}
}

// P18.1: the elements of Blocked, Off, Keep and Extra are any texts, as often as one likes.
func TestCheckElements(t *testing.T) {
	odd := []string{"", "none", "none", "[", "[b-a]", "a b", "..", "a/b", "\x00", "é", strings.Repeat("x", 1000)}
	checked(t, "odd names", api.Config{Blocked: odd, Off: odd, Keep: odd}, api.OK)
	for _, a := range odd {
		for _, b := range odd {
			checked(t, "odd extras", api.Config{Extra: extras(a, b, a, b)}, api.OK)
		}
	}
	checked(t, "the example", example(), api.OK)
}
