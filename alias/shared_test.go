package alias_test

import (
	"fmt"
	"slices"
	"strings"
	"testing"

	"coldplug/alias"
	"coldplug/api"
)

// The chapter's examples.
func TestSharedExamples(t *testing.T) {
	sharedIs(t, example(), "a", "b", "usb:v1", true)
	sharedIs(t, example(), "a", "c", "", false)
}

// P18.3: the least text of two patterns may be empty, have wildcards' least bytes, or not exist.
func TestSharedPatterns(t *testing.T) {
	for _, c := range []struct {
		a, b, want string
		ok         bool
	}{
		{"usb:v1*", "usb:*", "usb:v1", true},
		{"usb:*", "pci:*", "", false},
		{"*", "*", "", true},
		{"", "", "", true},
		{"*", "", "", true},
		{"?", "", "", false},
		{"?", "?", " ", true},
		{"?", "??", "", false},
		{"a*", "*b", "ab", true},
		{"a*a", "*aa", "aa", true},
		{"[b-z]", "[a-c]", "b", true},
		{"[!a-c]?", "*[d-z]", " d", true},
		{"a|b|c", "c|b", "b", true},
		{"aa|b", "a*|b", "b", true},
		{"|b", "?*", "b", true},
		{"abc", "abc", "abc", true},
		{"abc", "abd", "", false},
		{"aB", "ab", "", false},
	} {
		leastIs(t, []string{c.a}, []string{c.b}, c.want, c.ok)
		leastIs(t, []string{c.a, c.a}, []string{c.b, "[a]none", c.b}, c.want, c.ok)
	}
}

// P18.3: the least text of all pairs counts, wherever the patterns stand: the shorter one, and of equally long ones the one that is less.
func TestSharedLeast(t *testing.T) {
	for _, c := range []struct {
		a, b []string
		want string
	}{
		{[]string{"bb", "c"}, []string{"*", "bb"}, "c"},
		{[]string{"b", "a", "c"}, []string{"[a-c]"}, "a"},
		{[]string{"aaa", "zz"}, []string{"*"}, "zz"},
		{[]string{"zz", "aaa"}, []string{"*"}, "zz"},
		{[]string{"a", "B", "b"}, []string{"b", "B", "a"}, "B"},
		{[]string{"x*", "y"}, []string{"*z", "xyz", "yy*"}, "xz"},
		{[]string{"none", "a?"}, []string{"gone", "?b"}, "ab"},
		{[]string{"b", ""}, []string{"?", "*"}, ""},
		{[]string{"", "b"}, []string{"*", "?"}, ""},
		{[]string{"ba", "ab"}, []string{"a*", "b*"}, "ab"},
		{[]string{"a2", "a10"}, []string{"a1*", "a2*"}, "a2"},
	} {
		leastIs(t, c.a, c.b, c.want, true)
		slices.Reverse(c.a)
		leastIs(t, c.a, c.b, c.want, true)
		slices.Reverse(c.b)
		leastIs(t, c.a, c.b, c.want, true)
	}
	leastIs(t, nil, nil, "", false)
	leastIs(t, nil, []string{"*"}, "", false)
	leastIs(t, []string{"a", "b"}, []string{"c", "d"}, "", false)
}

// P18.3: every pair counts, also the last one of as many patterns as there may be.
func TestSharedPairs(t *testing.T) {
	for i := range 16 {
		for j := range 16 {
			a, b := slices.Repeat([]string{"a"}, 16), slices.Repeat([]string{"b"}, 16)
			a[i], b[j] = "x*", "*y"
			leastIs(t, a, b, "xy", true)
		}
	}
}

// P18.3: there is none without the modules; a module may be asked for together with itself.
func TestSharedModules(t *testing.T) {
	c := config(module("b", "x", "yy"), module("a", "x"), module("none"))
	for _, n := range []string{"gone", "", "A", "aa", "x", "*"} {
		sharedIs(t, c, "a", n, "", false)
		sharedIs(t, c, n, n, "", false)
	}
	sharedIs(t, c, "a", "b", "x", true)
	sharedIs(t, c, "b", "b", "x", true)
	sharedIs(t, c, "none", "none", "", false)
	sharedIs(t, config(), "a", "a", "", false)
}

// P18.3: Blocked and Extra have no influence, nor has what else is known.
func TestSharedOthers(t *testing.T) {
	c := config(api.Module{Name: "a", Aliases: []string{"ab*"}, Needs: []string{"b"}, Fails: true}, module("b", "*abc"))
	c.Blocked, c.Off, c.Keep = []string{"a", "b"}, []string{"a"}, []string{"b"}
	c.Extra = extras("x", "a", "x", "b", "", "a", "*", "b", "y", "c", "y", "d")
	sharedIs(t, c, "a", "b", "abc", true)
	sharedIs(t, c, "c", "d", "", false)
	c.Modules[1].Aliases = []string{"b"}
	sharedIs(t, c, "a", "b", "", false)
}

// P18.3: the longest patterns, whose least text may be longer than each of them.
func TestSharedLong(t *testing.T) {
	x, y := strings.Repeat("x", 255), strings.Repeat("y", 255)
	leastIs(t, []string{x + "*"}, []string{"*" + y}, x+y, true)
	leastIs(t, []string{x + "x"}, []string{x + "?", y}, x+"x", true)
	leastIs(t, []string{x + "x"}, []string{x + "y"}, "", false)
	leastIs(t, []string{strings.Repeat("*?", 128)}, []string{strings.Repeat("?*", 128)}, strings.Repeat(" ", 128), true)
}

// R4: configurations stay as they are, and so does the room behind their lists.
func TestUnchangedArguments(t *testing.T) {
	build := func() api.Config {
		aliases := roomy([]string{"y*", "x", "y?"}, "room")
		lists := func() []string { return roomy([]string{"b", "a"}, "room") }
		m := api.Module{Name: "b", Aliases: aliases, Needs: lists(), Pre: lists(), Post: lists()}
		modules := roomy([]api.Module{m, module("a", "y*")}, module("room", "*"))
		return api.Config{Modules: modules, Blocked: lists(), Off: lists(), Keep: lists(), Extra: roomy(extras("z", "b", "y", "a"), api.Attr{Name: "room", Value: "a"})}
	}
	// whole prints the lists with the room behind them.
	whole := func(c api.Config) string {
		s := fmt.Sprintf("%+v", []any{c.Modules[:cap(c.Modules)], c.Blocked[:cap(c.Blocked)], c.Off[:cap(c.Off)], c.Keep[:cap(c.Keep)], c.Extra[:cap(c.Extra)]})
		m := c.Modules[0]
		return s + fmt.Sprintf("%+v", []any{m.Aliases[:cap(m.Aliases)], m.Needs[:cap(m.Needs)], m.Pre[:cap(m.Pre)], m.Post[:cap(m.Post)]})
	}
	c := build()
	checked(t, "a configuration with room", c, api.OK)
	foundAre(t, c, "y", "a")
	foundAre(t, c, "z", "b")
	sharedIs(t, c, "a", "b", "y", true)
	first, second := alias.Find(c, "y"), alias.Find(c, "y")
	spoil(first, "spoilt")
	if !slices.Equal(second, []string{"a"}) {
		t.Errorf("a change of one result changed another one: %q", second)
	}
	if got, want := whole(c), whole(build()); got != want {
		t.Errorf("got %s, want %s", got, want)
	}
}
