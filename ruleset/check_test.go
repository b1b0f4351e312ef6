package ruleset_test

import (
	"slices"
	"strings"
	"testing"

	"coldplug/api"
)

// P17.1: nothing is wrong with no directories, empty ones, and those of the chapter's example.
func TestCheck(t *testing.T) {
	checked(t, api.OK)
	checked(t, api.OK, nil)
	checked(t, api.OK, nil, []api.File{}, nil)
	checked(t, api.OK, dir("50-b", "B1", "10-a", "A"), dir("50-b", "B2", "90-c", "", "20-d", "D"))
	// What a file says is of no importance.
	checked(t, api.OK, dir("a", "", "b", "\x00\xff\n", "c", strings.Repeat("x", 1<<20)))
}

// P17.1: Names are names, in whichever directory and at whichever place, and whatever the file says.
func TestCheckNames(t *testing.T) {
	right := []string{"a", "Z", "0", "_", "...", ".a", "a.", "a!b", "c:+-", "50-x.rules", strings.Repeat("n", api.MaxName)}
	wrong := []string{"", ".", "..", "a/b", "/a", "a ", "a\n", "a\\", "a#", "é", "\x00", "\xff", "a@b", strings.Repeat("n", api.MaxName+1), strings.Repeat("n", 1<<16)}
	for i, n := range append(slices.Clone(right), wrong...) {
		want := api.OK
		if i >= len(right) {
			want = api.ErrRulesetName
		}
		for _, text := range []string{"", "TAG+=\"a\""} {
			checked(t, want, dir(n, text))
			checked(t, want, nil, dir("x", "", n, text))
			checked(t, want, dir(n, text, "x", ""), dir("y", ""))
			checked(t, want, dir("x", ""), dir("x", "", "y", "", n, text, "z", ""), nil)
		}
	}
}

// P17.1: every byte of a Name.
func TestCheckBytes(t *testing.T) {
	for b := range 256 {
		want := api.ErrRulesetName
		if strings.IndexByte("ABCDEFGHIJKLMNOPQRSTUVWXYZabcdefghijklmnopqrstuvwxyz0123456789_.:+-!", byte(b)) >= 0 {
			want = api.OK
		}
		s := string([]byte{byte(b)})
		checked(t, want, dir("a"+s, ""))
		checked(t, want, dir(s+"a", ""))
	}
}

// P17.1: a Name is once in a directory, and may be in all of them.
func TestCheckTwice(t *testing.T) {
	for n := 2; n <= 8; n++ {
		for i := range n {
			for j := range i {
				for _, texts := range [][2]string{{"1", "2"}, {"1", "1"}, {"", "1"}, {"1", ""}, {"", ""}} {
					l := numbered(0, n, "x")
					l[i], l[j] = file("a", texts[0]), file("a", texts[1])
					checked(t, api.ErrRulesetName, l)
					checked(t, api.ErrRulesetName, numbered(0, n, ""), l)
					checked(t, api.ErrRulesetName, l, dir("b", ""))
					checked(t, api.OK, l[:i], l[i:])
				}
			}
		}
	}
	checked(t, api.OK, slices.Repeat([][]api.File{dir("a", "1", "b", "")}, 100)...)
	// Names are compared byte by byte.
	checked(t, api.OK, dir("a", "", "A", "", "a.", "", "aa", "", "a_", ""))
}

// P17.1: there are at most 64 different Names, empty files among them, however they are spread.
func TestCheckLimit(t *testing.T) {
	for _, text := range []string{"", "x"} {
		for cut := range 65 {
			checked(t, api.OK, numbered(0, cut, text), numbered(cut, 64, text))
			checked(t, api.ErrRulesetLimit, numbered(0, cut, text), numbered(cut, 65, text))
			checked(t, api.OK, numbered(0, 64, text), numbered(cut, 64, "y"))
			checked(t, api.ErrRulesetLimit, numbered(0, 64, "y"), numbered(cut, 65, text))
		}
		checked(t, api.OK, numbered(0, 63, text))
		checked(t, api.ErrRulesetLimit, numbered(0, 66, text))
		checked(t, api.ErrRulesetLimit, numbered(0, 5000, text))
		checked(t, api.ErrRulesetLimit, numbered(0, 64, "x"), nil, dir("last", text))
	}
	var single [][]api.File
	for _, f := range numbered(0, 64, "x") {
		single = append(single, []api.File{f}, numbered(0, 64, ""))
	}
	checked(t, api.OK, single...)
	checked(t, api.ErrRulesetLimit, append(single, dir("last", "x"))...)
}

// P17.1: a wrong Name counts more than too many of them, wherever the two are.
func TestCheckOrder(t *testing.T) {
	many := numbered(0, 65, "x")
	for _, wrong := range [][]api.File{dir("a/b", ""), dir("", "x"), dir("a", "1", "a", "2")} {
		checked(t, api.ErrRulesetName, many, wrong)
		checked(t, api.ErrRulesetName, wrong, many)
		checked(t, api.ErrRulesetName, append(slices.Clone(many), wrong...))
		checked(t, api.ErrRulesetName, append(slices.Clone(wrong), many...))
		checked(t, api.ErrRulesetName, many[:30], many[30:], nil, wrong)
	}
	checked(t, api.ErrRulesetName, append(slices.Clone(many), many[0]))
	checked(t, api.ErrRulesetLimit, many, many)
}
