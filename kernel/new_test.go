package kernel_test

import (
	"fmt"
	"strings"
	"testing"

	"coldplug/api"
	"coldplug/kernel"
)

// some returns n different names.
func some(n int) []string {
	var l []string
	for i := range n {
		l = append(l, fmt.Sprint("m", i))
	}
	return l
}

// called returns modules with these names.
func called(names ...string) []api.Module {
	var l []api.Module
	for _, n := range names {
		l = append(l, api.Module{Name: n})
	}
	return l
}

// P5.1: which lists are valid, up to the limits.
func TestNew(t *testing.T) {
	long := strings.Repeat("a", api.MaxName)
	pattern := strings.Repeat("*", api.MaxText)
	for title, l := range map[string][]api.Module{
		"none":                      nil,
		"empty":                     {},
		"as many as may be":         called(some(api.MaxModules)...),
		"a long name":               called(long),
		"names that differ in case": called("a", "A"),
		"full lists": {{Name: "a", Aliases: some(api.MaxNeeds), Needs: some(api.MaxNeeds),
			Pre: some(api.MaxNeeds), Post: some(api.MaxNeeds), Fails: true}},
		"what is not there":  {{Name: "a", Needs: []string{"b"}, Pre: []string{"c"}, Post: []string{"d"}}},
		"itself":             {{Name: "a", Needs: []string{"a"}, Pre: []string{"a"}, Post: []string{"a"}}},
		"elements twice":     {{Name: "a", Aliases: []string{"*", "*"}, Needs: []string{"b", "b"}, Pre: []string{"b", "b"}, Post: []string{"b", "b"}}},
		"long elements":      {{Name: "a", Aliases: []string{pattern}, Needs: []string{long}, Pre: []string{long}, Post: []string{long}}},
		"an empty pattern":   {{Name: "a", Aliases: []string{""}}},
		"patterns, no names": {{Name: "a", Aliases: []string{"a b", "/", "[!a]|"}}},
		"aliases of another": {{Name: "a", Aliases: []string{"x"}}, {Name: "b", Aliases: []string{"x"}}},
	} {
		k, err := kernel.New(l)
		if k == nil || err != api.OK {
			t.Errorf("%s: got %v, %v", title, k, err)
			continue
		}
		if got := stateOf(k); !same(got, state{}) {
			t.Errorf("%s: the state is %+v", title, got)
		}
		for _, m := range l {
			refused(t, k, unloadOp(m.Name), api.ErrKernelModule)
		}
		refused(t, k, loadOp("none"), api.ErrKernelNone)
	}
}

// P5.1: every way in which a list is not valid, at the first and at the last place.
func TestNewRefuses(t *testing.T) {
	wrong := map[string]api.Module{
		"no name":                {},
		"an unsound name":        {Name: "a/b"},
		"dots":                   {Name: ".."},
		"a name that's too long": {Name: strings.Repeat("a", api.MaxName+1)},
		"a pattern":              {Name: "a", Aliases: []string{"["}},
		"the last pattern":       {Name: "a", Aliases: []string{"a", "[]"}},
		"a pattern that's long":  {Name: "a", Aliases: []string{strings.Repeat("*", api.MaxText+1)}},
		"a pattern's bytes":      {Name: "a", Aliases: []string{"\x7f"}},
		"a need":                 {Name: "a", Needs: []string{""}},
		"the last need":          {Name: "a", Needs: []string{"b", "*"}},
		"a pre":                  {Name: "a", Pre: []string{"a b"}},
		"the last pre":           {Name: "a", Pre: []string{"b", "."}},
		"a post":                 {Name: "a", Post: []string{"/"}},
		"the last post":          {Name: "a", Post: []string{"b", "\xff"}},
		"too many aliases":       {Name: "a", Aliases: some(api.MaxNeeds + 1)},
		"too many needs":         {Name: "a", Needs: some(api.MaxNeeds + 1)},
		"too many pre":           {Name: "a", Pre: some(api.MaxNeeds + 1)},
		"too many post":          {Name: "a", Post: some(api.MaxNeeds + 1)},
	}
	for title, m := range wrong {
		for _, l := range [][]api.Module{{m}, {m, {Name: "z"}}, {{Name: "y"}, {Name: "z"}, m}} {
			if k, err := kernel.New(l); k != nil || err != api.ErrKernelSetup {
				t.Errorf("%s, %d modules: got %v, %v", title, len(l), k, err)
			}
		}
	}
	for title, l := range map[string][]api.Module{
		"too many":             called(some(api.MaxModules + 1)...),
		"a name twice":         called("a", "a"),
		"a name twice, late":   called("a", "b", "c", "a"),
		"a name twice at last": called("a", "b", "c", "c"),
		"different modules":    {{Name: "a", Aliases: []string{"x"}}, {Name: "a", Fails: true}},
	} {
		if k, err := kernel.New(l); k != nil || err != api.ErrKernelSetup {
			t.Errorf("%s: got %v, %v", title, k, err)
		}
	}
}

// P5.1, R4: the list is neither changed nor kept.
func TestNewKeepsNothing(t *testing.T) {
	room := func(s string) []string { return append(make([]string, 0, 4), s) }
	full := func() []api.Module {
		return append(make([]api.Module, 0, 4),
			api.Module{Name: "a", Aliases: room("x:*"), Pre: room("p"), Post: room("p")},
			api.Module{Name: "b", Aliases: room("y:*"), Needs: room("a")})
	}
	l := full()
	k := begin(t, l...)
	l[1].Aliases[0], l[1].Needs[0] = "x:*", "none"
	l[0] = api.Module{Name: "c", Fails: true}
	do(t, k, loadOp("a"), loadOp("b"), addOp("", plain("x", "x:1")), addOp("", plain("y", "y:1")))
	emits(t, k, 0, "1 add 1 /x", "2 bind 1 /x", "3 add 2 /y", "4 bind 2 /y")
	l = full()
	k = begin(t, l...)
	do(t, k, addOp("", plain("x", "x:1")), loadOp("a"), loadOp("b"), unloadOp("b"), unloadOp("a"))
	if !deepEqual(l, full()) {
		t.Errorf("the list became %v", l)
	}
}
