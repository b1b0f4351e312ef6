package match_test

import (
	"slices"
	"strings"
	"testing"

	"coldplug/api"
	"coldplug/match"
)

// full is a draft whose texts are all different.
func full() api.Draft {
	return api.Draft{
		Props:  []api.Attr{{Name: "A", Value: "1"}, {Name: "ID", Value: "x y"}},
		Tags:   []string{"t1", "t2"},
		Links:  []string{"disk/a"},
		Run:    []string{"run it"},
		Load:   []string{"alias"},
		Name:   "lan0",
		Owner:  "root",
		Group:  "disk",
		Result: "ok then",
		Closed: []api.Term{{Key: api.KeyTag}, {Key: api.KeyEnv, Name: "A"}},
	}
}

// P12.3: the chapter's example.
func TestDraftExample(t *testing.T) {
	draftIs(t, false, not(api.KeyTag, "x*"), "add", api.Draft{Tags: []string{"a", "x1"}})
}

// P12.3: each key looks at its own value.
func TestValuesOfDrafts(t *testing.T) {
	for _, s := range []string{"add", "1", "x y", "A", "ID", "t1", "t2", "disk/a", "run it", "alias", "lan0", "root", "disk", "ok then", "ok", ""} {
		draftIs(t, s == "add", is(api.KeyAction, s), "add", full())
		draftIs(t, s == "1", named(is(api.KeyEnv, s), "A"), "add", full())
		draftIs(t, s == "x y", named(is(api.KeyEnv, s), "ID"), "add", full())
		draftIs(t, s == "ok then", is(api.KeyResult, s), "add", full())
		draftIs(t, s == "t1" || s == "t2", is(api.KeyTag, s), "add", full())
	}
}

// P12.3: a name in braces says nothing beside KeyEnv.
func TestNamesWithoutMeaningForDrafts(t *testing.T) {
	for _, name := range []string{"", "A", "ID", "t1"} {
		draftIs(t, true, named(is(api.KeyAction, "change"), name), "change", full())
		draftIs(t, true, named(is(api.KeyResult, "ok*"), name), "change", full())
		draftIs(t, true, named(is(api.KeyTag, "t1"), name), "change", full())
	}
}

// P12.3: the actions, some of which are none.
func TestActions(t *testing.T) {
	for _, action := range []string{"", "add", "remove", "change", "move", "bind", "unbind", "additional", "Add", " "} {
		draftIs(t, action == "add" || action == "change", is(api.KeyAction, "add|change"), action, full())
		draftIs(t, action == "", is(api.KeyAction, ""), action, api.Draft{})
		draftIs(t, true, is(api.KeyAction, "*"), action, api.Draft{})
		draftIs(t, action != "" && action != " ", is(api.KeyAction, "?*[!x ]"), action, api.Draft{})
	}
}

// P12.3: a property that is not there is the empty text; of several with one name the first one counts.
func TestProperties(t *testing.T) {
	for _, d := range []api.Draft{full(), {}} {
		for _, name := range []string{"", "NONE", "a", "I", "ID2", "t1", "ACTION"} {
			draftIs(t, true, named(is(api.KeyEnv, ""), name), "add", d)
			draftIs(t, true, named(is(api.KeyEnv, "*"), name), "add", d)
			draftIs(t, false, named(is(api.KeyEnv, "?*"), name), "add", d)
		}
	}
	twice := api.Draft{Props: []api.Attr{{Name: "Z", Value: "1"}, {Name: "A", Value: "2"}, {Name: "Z", Value: "3"}}}
	draftIs(t, true, named(is(api.KeyEnv, "1"), "Z"), "add", twice)
	draftIs(t, true, named(is(api.KeyEnv, "2"), "A"), "add", twice)
}

// P12.3: one tag is enough for ==, and one is too many for !=, wherever it stands.
func TestTags(t *testing.T) {
	for _, tags := range [][]string{{"x"}, {"x", "y", "z"}, {"a", "x", "y"}, {"a", "b", "x"}, {"x", "x"}} {
		draftIs(t, true, is(api.KeyTag, "x"), "", api.Draft{Tags: tags})
		draftIs(t, true, is(api.KeyTag, "[u-x]|q"), "", api.Draft{Tags: tags})
		draftIs(t, true, is(api.KeyTag, "*"), "", api.Draft{Tags: tags})
		draftIs(t, false, is(api.KeyTag, "q|"), "", api.Draft{Tags: tags})
		draftIs(t, false, is(api.KeyTag, "?x"), "", api.Draft{Tags: tags})
	}
	// An alternative, or an element, does not go beyond a tag.
	draftIs(t, false, is(api.KeyTag, "a?b|a,b|ab|a*b"), "", api.Draft{Tags: []string{"a", "b"}})
}

// P12.3: without tags no glob matches one, not even that of the empty text.
func TestNoTags(t *testing.T) {
	for _, tags := range [][]string{nil, {}} {
		for _, pattern := range []string{"*", "", "x", "|", "?*"} {
			draftIs(t, false, is(api.KeyTag, pattern), "add", api.Draft{Tags: tags})
		}
	}
	draftIs(t, true, is(api.KeyTag, ""), "add", api.Draft{Tags: []string{"a", ""}})
}

// P12.3: the empty Result, as it is ahead of the first helper.
func TestNoResult(t *testing.T) {
	draftIs(t, true, is(api.KeyResult, ""), "add", api.Draft{})
	draftIs(t, true, is(api.KeyResult, "*"), "add", api.Draft{})
	draftIs(t, true, not(api.KeyResult, "?*"), "add", api.Draft{})
}

// P12.3: what is no pattern matches nothing, and so does every pattern for what is no text.
func TestWrongPatternsForDrafts(t *testing.T) {
	for _, key := range draftKeys {
		for _, pattern := range []string{"[", "*|[", "[]", "[b-a]", "\x00", "é", strings.Repeat("*", api.MaxText+1)} {
			draftIs(t, true, named(not(key, pattern), "A"), "add", full())
		}
		draftIs(t, true, named(is(key, strings.Repeat("*", api.MaxText)), "A"), "add", full())
		odd := api.Draft{Props: []api.Attr{{Name: "A", Value: "\n"}}, Tags: []string{"\x7f", "é"}, Result: "\x00"}
		draftIs(t, true, named(not(key, "*"), "A"), "\xff", odd)
	}
}

// P12.3: all other terms do not hold, whatever their globs match.
func TestOtherTermsForDrafts(t *testing.T) {
	for _, x := range someTerms() {
		for _, d := range []api.Draft{{}, full()} {
			everything := x.Value == "*" && !(x.Key == api.KeyTag && len(d.Tags) == 0)
			want := isMatch(x, draftKeys) && (x.Op == api.OpIs) == everything
			if got := match.Draft(x, "add", d); got != want {
				t.Errorf("Draft of %+v for %+v is %v", x, d, got)
			}
		}
	}
}

// P12.2 and P12.3: no match is looked at both in a device and in a draft, and PROGRAM and IMPORT in neither.
func TestTermsOfOneKind(t *testing.T) {
	for _, x := range someTerms() {
		if match.Device(x, api.Device{}) && match.Draft(x, "", api.Draft{}) {
			t.Errorf("%+v holds for both", x)
		}
		if !slices.Contains(slices.Concat(deviceKeys, draftKeys), x.Key) && (match.Device(x, api.Device{}) || match.Draft(x, "", api.Draft{})) {
			t.Errorf("%+v holds", x)
		}
	}
}
