package alias_test

import (
	"math"
	"slices"
	"strconv"
	"strings"
	"testing"

	"coldplug/alias"
	"coldplug/api"
)

// The chapter's examples.
func TestFindExamples(t *testing.T) {
	foundAre(t, example(), "usb:v1", "a")
	foundAre(t, example(), "pci:x", "c")
	foundAre(t, example(), "")
}

// P18.2: the modules whose patterns match, each once, in the order of their names and not in that of Modules.
func TestFindOrder(t *testing.T) {
	c := config(module("b", "usb:*"), module("a", "usb:v1*", "x"), module("Z", "*"), module("aa", "usb:v?", "none", "usb:v*"), module("c"), module("!", "usb:v1|usb:v2"))
	foundAre(t, c, "usb:v1", "!", "Z", "a", "aa", "b")
	foundAre(t, c, "usb:v2", "!", "Z", "aa", "b")
	foundAre(t, c, "usb:v12", "Z", "a", "aa", "b")
	foundAre(t, c, "usb:", "Z", "b")
	foundAre(t, c, "usb", "Z")
	foundAre(t, c, "x", "Z", "a")
	foundAre(t, c, "X", "Z")
	foundAre(t, config(), "usb:v1")
	foundAre(t, config(module("a")), "a")
	foundAre(t, config(module("m", "*", "a|b*", "a?", "ab", "ab")), "ab", "m")
}

// P18.2: nothing is found by the empty alias, though patterns match it.
func TestFindEmpty(t *testing.T) {
	c := config(module("a", "*", "", "|", "**", "x|"), module("b", ""))
	c.Extra = extras("*", "a", "", "b")
	foundAre(t, c, "")
	foundAre(t, c, " ", "a")
	foundAre(t, c, "x", "a")
}

// P18.2: what stands in front of the first wildcard, of one alternative or of several, is longer or shorter than the alias, or is not its beginning.
func TestFindBeginnings(t *testing.T) {
	for p, l := range map[string][2][]string{
		"abc":        {{"abc"}, {"ab", "abcd", "a", "xbc", "abC"}},
		"abc*":       {{"abc", "abcd", "abc*"}, {"ab", "a", "xabc"}},
		"ab?":        {{"abc", "ab?", "ab "}, {"ab", "abcd", "a"}},
		"ab[cd]":     {{"abc", "abd"}, {"ab", "ab[cd]", "abe", "ab["}},
		"ab[!c]":     {{"abd", "ab["}, {"abc", "ab"}},
		"[a]bc":      {{"abc"}, {"bc", "[a]bc"}},
		"abx|aby*":   {{"abx", "aby", "abyz"}, {"ab", "abxz", "abx|aby"}},
		"abx|ac|a":   {{"abx", "ac", "a"}, {"ab", "abx|"}},
		"abc|x":      {{"abc", "x"}, {"a", "ab", "xx", "|"}},
		"abc|":       {{"abc"}, {"a", "|", "abc|"}},
		"|abc":       {{"abc"}, {"bc", "ab"}},
		"*c":         {{"c", "abc", "cc"}, {"cb", "C"}},
		"ab*c*":      {{"abc", "abxcx"}, {"ab", "abx"}},
		"a[|]b":      {{"a|b"}, {"a", "b", "ab"}},
		"a]":         {{"a]"}, {"a"}},
		"a[]":        {nil, {"a", "a[]", "a["}},
		"a[c-b]":     {nil, {"ab", "ac", "a-"}},
		"a\x7f":      {nil, {"a", "a\x7f"}},
		"usb:v*d?p*": {{"usb:v1d2p3", "usb:vd2p"}, {"usb:vdp", "usb:v1"}},
	} {
		own := config(module("other", "none"), module("m", p))
		extra := config(module("m"), module("n"))
		extra.Extra = extras("none", "n", p, "m")
		for _, s := range l[0] {
			foundAre(t, own, s, "m")
			foundAre(t, extra, s, "m")
		}
		for _, s := range l[1] {
			foundAre(t, own, s)
			foundAre(t, extra, s)
		}
	}
}

// P18.2, and the chapter's consequences: a module that is blocked is found by Extra patterns alone.
func TestFindBlocked(t *testing.T) {
	c := config(module("a", "usb:*"), module("b", "usb:*"), module("ab", "usb:*"))
	foundAre(t, c, "usb:1", "a", "ab", "b")
	c.Blocked = []string{"none", "b", "", "usb:*", "a*", "b"}
	foundAre(t, c, "usb:1", "a", "ab")
	c.Blocked = []string{"a", "b", "ab"}
	foundAre(t, c, "usb:1")
	c.Extra = extras("usb:1", "b", "pci:*", "a")
	foundAre(t, c, "usb:1", "b")
	foundAre(t, c, "usb:2")
	foundAre(t, c, "pci:2", "a")
}

// P18.2: elements of Extra count one by one, and only with a pattern and a module.
func TestFindExtra(t *testing.T) {
	c := config(module("a", "x"), module("b"))
	c.Extra = extras("[", "a", "*", "none", "*", "", "*", "A", "*", "a*", "b", "x", "y|z", "b", "y*", "b", "y*", "a", strings.Repeat("y", 257), "b", "é*", "b")
	foundAre(t, c, "x", "a")
	foundAre(t, c, "y", "a", "b")
	foundAre(t, c, "z", "b")
	foundAre(t, c, "b")
	foundAre(t, c, "[")
	foundAre(t, c, "é")
	foundAre(t, c, strings.Repeat("y", 257), "a", "b")
	// The module may stand behind others, and have no patterns of its own.
	c = config(numbered(128)...)
	c.Extra = extras("late", "m127", "late", "m0", "late", "m128")
	foundAre(t, c, "late", "m0", "m127")
}

// P18.2: what else is known about modules has no influence.
func TestFindOthers(t *testing.T) {
	c := config(api.Module{Name: "a", Aliases: []string{"x"}, Needs: []string{"b", "gone"}, Pre: []string{"b"}, Post: []string{"x"}, Fails: true}, module("b", "y"))
	c.Off, c.Keep = []string{"a", "b"}, []string{"b"}
	foundAre(t, c, "x", "a")
	foundAre(t, c, "y", "b")
	foundAre(t, c, "z")
}

// P18.2: an alias may have any bytes, but only some are matched.
func TestFindBytes(t *testing.T) {
	c := config(module("all", "*"), module("one", "a?"), module("not", "a[!a]*"))
	for b := range 256 {
		s := "a" + string([]byte{byte(b)})
		switch {
		case b < 32 || b > 126:
			foundAre(t, c, s)
		case b == 'a':
			foundAre(t, c, s, "all", "one")
		default:
			foundAre(t, c, s, "all", "not", "one")
		}
	}
}

// P18.2: aliases around the greatest length of a pattern, and far beyond it.
func TestFindLong(t *testing.T) {
	most := strings.Repeat("p", 256)
	c := config(module("exact", most), module("more", most[:255]+"*"), module("less", most[:254]+"?"), module("one", "p*"), module("end", "*q"))
	foundAre(t, c, most[:254], "one")
	foundAre(t, c, most[:255], "less", "more", "one")
	foundAre(t, c, most, "exact", "more", "one")
	foundAre(t, c, most+"p", "more", "one")
	foundAre(t, c, most+"q", "end", "more", "one")
	c = config(module("most", "*", most), module("other", "q*"))
	foundAre(t, c, most, "most")
	// Were it cut at every byte, this would take far too long, as maps with this many keys read keys as a whole.
	c = config(append(numbered(50), module("one", "p*"), module("end", "*q"), module("more", most[:255]+"*"))...)
	for i := range 50 {
		c.Extra = append(c.Extra, api.Attr{Name: strings.Repeat("p", i) + "x", Value: "m1"})
	}
	checked(t, "a long alias", c, api.OK)
	foundAre(t, c, strings.Repeat("p", 1<<23)+"q", "end", "more", "one")
}

// P18.2: as many modules, patterns and elements as there may be.
func TestFindMany(t *testing.T) {
	var c api.Config
	for i := range 128 {
		n := strconv.Itoa(i)
		m := module("m" + n)
		for k := range 16 {
			m.Aliases = append(m.Aliases, "dev:"+n+":"+strconv.Itoa(k)+"*")
		}
		c.Modules = append(c.Modules, m)
		c.Extra = append(c.Extra, api.Attr{Name: "all|own:" + n, Value: m.Name})
	}
	checked(t, "many", c, api.OK)
	x := alias.New(c)
	var all []string
	for i, m := range c.Modules {
		n := strconv.Itoa(i)
		for _, s := range []string{"dev:" + n + ":0", "dev:" + n + ":15x", "own:" + n} {
			if got := x.Find(s); !slices.Equal(got, []string{m.Name}) {
				t.Errorf("%q: got %q, want %q", s, got, m.Name)
			}
		}
		all = append(all, m.Name)
	}
	slices.Sort(all)
	foundAre(t, c, "all", all...)
	foundAre(t, c, "dev:128:1")
}

// R4: an index does not change with the configuration that it was made of, nor with what it returned.
func TestIndexDoesNotChange(t *testing.T) {
	c := config(roomy([]api.Module{module("b", "x*", "y"), module("a", "x"), module("c", "x")}, module("room", "*"))...)
	c.Blocked, c.Extra = roomy([]string{"c"}, "b"), roomy(extras("y", "a"), api.Attr{Name: "*", Value: "c"})
	x := alias.New(c)
	spoil(c.Modules[0].Aliases, "none")
	spoil(c.Modules, module("new", "*"))
	spoil(c.Blocked, "a")
	spoil(c.Extra, api.Attr{Name: "*", Value: "b"})
	for range 3 {
		for s, want := range map[string][]string{"x": {"a", "b"}, "y": {"a", "b"}, "z": nil, "": nil} {
			got := x.Find(s)
			if !slices.Equal(got, want) {
				t.Errorf("%q: got %q, want %q", s, got, want)
			}
			spoil(got, "spoilt")
		}
	}
}

// R1 and R5: configurations that are not valid give one result or another, and always the same.
func TestFindInvalid(t *testing.T) {
	long := strings.Repeat("*[\xff", 1<<12)
	many := slices.Repeat([]string{"m", long, ""}, 1<<13)
	modules := []api.Module{module("m", many...), module("m", "x"), module("", "*", "["), module(long, long, "*"), {}}
	for _, c := range []api.Config{
		{Modules: modules},
		{Modules: modules, Blocked: []string{"m", long}, Extra: extras("*", "m", long, long, "", "", "x", "")},
		{Modules: slices.Repeat(modules[1:], 1<<13), Blocked: many, Off: many, Keep: many, Extra: slices.Repeat(extras("*", "m", "x", "gone"), 1<<13)},
	} {
		checked(t, "not valid", c, api.ErrModuleConfig)
		x := alias.New(c)
		for _, s := range []string{"", "m", "x", "[", "\xff", long, strings.Repeat("x", math.MaxUint16)} {
			first := x.Find(s)
			if again := x.Find(s); !slices.Equal(first, again) || !slices.Equal(first, alias.Find(c, s)) || !slices.IsSorted(first) {
				t.Errorf("%.20q: got %.20q, then %.20q", s, first, again)
			}
		}
		for _, l := range [][2]string{{"", ""}, {"m", ""}, {long, "gone"}, {long, ""}} {
			text, ok := alias.Shared(c, l[0], l[1])
			if again, same := alias.Shared(c, l[0], l[1]); again != text || same != ok || !ok && text != "" {
				t.Errorf("Shared of %.20q: got %q and %v, then %q and %v", l, text, ok, again, same)
			}
		}
	}
}
