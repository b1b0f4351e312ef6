package ruleset_test

import (
	"slices"
	"strings"
	"testing"

	"coldplug/api"
	"coldplug/ruleset"
)

// The chapter's examples.
func TestMergeExamples(t *testing.T) {
	second := dir("50-b", "B2", "90-c", "", "20-d", "D")
	mergedAre(t, dir("10-a", "A", "20-d", "D", "50-b", "B1"), dir("50-b", "B1", "10-a", "A"), second)
	mergedAre(t, dir("10-a", "A", "50-b", "B1"), dir("50-b", "B1", "10-a", "A", "20-d", ""), second)
}

// P17.2: the file of the first directory that has one counts.
func TestMergeFirst(t *testing.T) {
	mergedAre(t, nil)
	mergedAre(t, nil, nil, []api.File{})
	mergedAre(t, dir("a", "1"), dir("a", "1"), dir("a", "2"), dir("a", "3"))
	mergedAre(t, dir("a", "2"), nil, dir("a", "2"), nil, dir("a", "1"))
	mergedAre(t, dir("a", "1", "b", "2", "c", "3"), dir("a", "1"), dir("b", "2", "a", "2"), dir("c", "3", "a", "3", "b", "3"))
	mergedAre(t, dir("a", "3", "b", "2", "c", "1"), dir("c", "1"), dir("c", "2", "b", "2"), dir("b", "3", "a", "3", "c", "3"))
}

// P17.2: an empty file hides those behind it, not those before it, and takes nobody's place.
func TestMergeEmpty(t *testing.T) {
	mergedAre(t, nil, dir("a", ""))
	mergedAre(t, nil, dir("a", ""), dir("a", "1"))
	mergedAre(t, dir("a", "1"), dir("a", "1"), dir("a", ""))
	mergedAre(t, nil, dir("a", ""), dir("a", "1"), dir("a", ""), dir("a", "2"))
	mergedAre(t, dir("b", "1"), dir("a", ""), dir("a", "1", "b", "1"), dir("b", "", "a", "2"))
	mergedAre(t, nil, dir("a", ""), dir("b", ""), dir("a", "1", "b", "1"))
	// A text of blanks is a text.
	for _, text := range []string{" ", "\n", "#", "\\", "\x00"} {
		mergedAre(t, dir("a", text), dir("a", text), dir("a", "1"))
	}
}

// P17.2: Names ascend byte by byte, whatever the directories' order is.
func TestMergeOrder(t *testing.T) {
	want := dir("!", "1", "+", "1", "-", "1", "-0", "1", ".a", "1", "10", "1", "100", "1", "9", "1", ":", "1", "A", "1", "Z", "1", "Za", "1", "_", "1", "a", "1", "a!", "1", "a.b", "1", "aB", "1", "aa", "1", "b", "1")
	back := slices.Clone(want)
	slices.Reverse(back)
	mergedAre(t, want, want)
	mergedAre(t, want, back)
	for cut := range want {
		mergedAre(t, want, back[:cut], want[cut/2:], back[cut:])
		mergedAre(t, want, want[cut:], want[:cut])
	}
}

// P17.2: as many files as there may be, of which empty ones are left out.
func TestMergeMany(t *testing.T) {
	text := strings.Repeat("TAG+=\"a\"\n", 1<<12)
	want := numbered(0, 32, text)
	slices.SortFunc(want, func(a, b api.File) int { return strings.Compare(a.Name, b.Name) })
	mergedAre(t, want, numbered(0, 32, text), numbered(32, 64, ""), numbered(0, 64, "hidden"))
	mergedAre(t, want, numbered(32, 64, ""), numbered(0, 64, text))
}

// The chapter's consequences: a further file changes at most the file of its Name.
func TestMergeOneMore(t *testing.T) {
	dirs := [][]api.File{dir("b", "1", "d", ""), nil, dir("c", "1", "a", "", "d", "2", "e", "3"), dir("b", "9", "a", "9")}
	before, _ := ruleset.Merge(dirs)
	for _, n := range []string{"a", "b", "c", "d", "e", "f", "Z", "aa"} {
		for at := range dirs {
			if slices.ContainsFunc(dirs[at], func(f api.File) bool { return f.Name == n }) {
				continue
			}
			for _, text := range []string{"", "new"} {
				more := slices.Clone(dirs)
				more[at] = append(slices.Clone(dirs[at]), file(n, text))
				after, err := ruleset.Merge(more)
				if err != api.OK || !slices.Equal(without(after, n), without(before, n)) {
					t.Errorf("with %q in %d: %q became %q", n, at, before, after)
				}
			}
		}
	}
}

// without returns the files that do not have a name.
func without(l []api.File, name string) []api.File {
	return slices.DeleteFunc(slices.Clone(l), func(f api.File) bool { return f.Name == name })
}

// R4: directories stay as they are, and so does the room behind them; results are new.
func TestMergeKeeps(t *testing.T) {
	behind := file("0-room", "room")
	dirs := roomy([][]api.File{roomy(dir("b", "1", "a", "1"), behind), roomy(dir("c", "", "a", "2", "d", "4"), behind)}, dir("0-more", "more"))
	whole := slices.Clone(dirs[:cap(dirs)])
	for i, l := range whole {
		whole[i] = slices.Clone(l[:cap(l)])
	}
	want := dir("a", "1", "b", "1", "d", "4")
	first, _ := ruleset.Merge(dirs)
	second, _ := ruleset.Merge(dirs)
	spoil(first, file("spoilt", ""))
	if !slices.Equal(second, want) {
		t.Errorf("a change of one result changed another one: %q", second)
	}
	mergedAre(t, want, dirs...)
	for i, l := range dirs[:cap(dirs)] {
		if !slices.Equal(l[:cap(l)], whole[i]) {
			t.Errorf("the directory %d became %q", i, l[:cap(l)])
		}
	}
}

// P17.2, R4: one directory may be given several times, also with the same memory.
func TestMergeOneDirectoryTwice(t *testing.T) {
	l := dir("b", "1", "a", "", "c", "2")
	mergedAre(t, dir("b", "1", "c", "2"), l, l, l)
	mergedAre(t, dir("a", "3", "b", "1", "c", "2"), dir("a", "3"), l, l)
}
