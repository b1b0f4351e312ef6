package ruleset_test

import (
	"slices"
	"strings"
	"testing"

	"coldplug/api"
	"coldplug/ruleset"
)

// P17.4: files that one list has alone, and files with other texts.
func TestChanged(t *testing.T) {
	changedAre(t, nil, nil)
	changedAre(t, nil, []api.File{})
	changedAre(t, dir("a", "1"), dir("a", "1"))
	changedAre(t, dir("a", "1"), nil, "a")
	changedAre(t, dir("a", "1"), dir("a", "2"), "a")
	changedAre(t, dir("a", "1"), dir("b", "1"), "a", "b")
	changedAre(t, dir("a", "1", "b", "1", "c", "1"), dir("c", "1", "b", "2", "d", "1"), "a", "b", "d")
	changedAre(t, dir("a", "1", "b", "2"), dir("b", "2", "a", "1"))
}

// P17.4: texts are compared byte by byte; an empty text is another one than each other, and no file is something else than an empty one.
func TestChangedTexts(t *testing.T) {
	texts := []string{"", " ", "\n", "a", "A", "a ", "a\n", "\x00", strings.Repeat("a", 1<<16), strings.Repeat("a", 1<<16-1) + "b"}
	for i, x := range texts {
		changedAre(t, dir("f", x), nil, "f")
		changedAre(t, dir("f", x, "g", "1"), dir("g", "1"), "f")
		for j, y := range texts {
			if i == j {
				changedAre(t, dir("f", x), dir("f", y))
			} else {
				changedAre(t, dir("f", x), dir("f", y), "f")
			}
		}
	}
}

// P17.4: of files with the same Name the first one counts, and a Name is returned once.
func TestChangedTwice(t *testing.T) {
	changedAre(t, dir("a", "1", "a", "2"), dir("a", "1"))
	changedAre(t, dir("a", "1", "a", "2"), dir("a", "2"), "a")
	changedAre(t, dir("a", "1", "a", "2"), dir("a", "2", "a", "1"), "a")
	changedAre(t, dir("a", "1", "a", "2", "a", "3"), dir("a", "1", "a", "3", "a", "2"))
	changedAre(t, dir("a", "", "a", "2"), dir("a", "2"), "a")
	changedAre(t, dir("a", "1", "a", "1", "b", "1", "a", "1"), nil, "a", "b")
	changedAre(t, dir("b", "1", "a", "1", "b", "2"), dir("b", "2", "a", "1", "b", "1"), "b")
}

// P17.4: Names ascend byte by byte, whatever the lists' order is.
func TestChangedOrder(t *testing.T) {
	want := []string{"!", "+", "-0", "10", "100", "9", "A", "Z", "Za", "_", "a", "a!", "aB", "aa", "b"}
	var a, b []api.File
	for i, n := range slices.Backward(want) {
		if i%3 != 0 {
			a = append(a, file(n, "1"))
		}
		if i%3 != 1 {
			b = slices.Insert(b, len(b)/2, file(n, "2"))
		}
	}
	changedAre(t, a, b, want...)
}

// P17.4: it is asked of any lists, also with Names that are none, and with more files than a rule set has.
func TestChangedOfAnyFiles(t *testing.T) {
	changedAre(t, dir("", ""), nil, "")
	changedAre(t, dir("", ""), dir("", ""))
	changedAre(t, dir("", "", "\xff", "1", "a/b", "1", strings.Repeat("n", 300), "1"), dir("\xff", "2", "a/b", "1"), "", strings.Repeat("n", 300), "\xff")
	var want []string
	for _, f := range numbered(0, 5000, "") {
		want = append(want, f.Name)
	}
	slices.Sort(want)
	changedAre(t, numbered(0, 5000, "1"), numbered(0, 5000, "2"), want...)
	changedAre(t, numbered(0, 5000, "1"), numbered(0, 5000, "1"))
}

// R4: lists stay as they are, and so does the room behind them; results are new.
func TestChangedKeeps(t *testing.T) {
	behind := file("room", "room")
	a, b := roomy(dir("b", "1", "a", "1", "b", "2"), behind), roomy(dir("c", "1", "a", "2"), behind)
	wholeA, wholeB := slices.Clone(a[:cap(a)]), slices.Clone(b[:cap(b)])
	first, second := ruleset.Changed(a, b), ruleset.Changed(a, b)
	spoil(first, "spoilt")
	if !slices.Equal(second, []string{"a", "b", "c"}) {
		t.Errorf("a change of one result changed another one: %q", second)
	}
	if !slices.Equal(a[:cap(a)], wholeA) || !slices.Equal(b[:cap(b)], wholeB) {
		t.Errorf("the lists became %q and %q", a[:cap(a)], b[:cap(b)])
	}
}
