package name_test

import (
	"slices"
	"strings"
	"testing"

	"coldplug/api"
	"coldplug/name"
)

// noPaths are texts that are no paths, each for another reason.
var noPaths = []string{
	"", "a", "a/b", "/", "//", "//a", "/a/", "/a//b", "/.", "/..", "/a/.", "/a/..", "/./a", "/../a",
	"/a b", "/a@", "/a\x00", "/\xff", "/é", " /a", "/a\n", "/a/" + strings.Repeat("b", 33),
}

// samplePaths returns all paths of at most three names out of a few, in no order.
func samplePaths() []string {
	names := []string{"b", "a", "a!", "a+", "a.", "a-", "ab", "a0", "Z", "a:", "a_"}
	var paths []string
	level := []string{""}
	for range 3 {
		var next []string
		for _, dir := range level {
			for _, n := range names {
				next = append(next, dir+"/"+n)
			}
		}
		paths = append(paths, next...)
		level = next
	}
	return paths
}

// P1.2
func TestSplit(t *testing.T) {
	long := strings.Repeat("n", 32)
	for path, want := range map[string][]string{
		"/a":              {"a"},
		"/a/b.c":          {"a", "b.c"},
		"/a/a/a":          {"a", "a", "a"},
		"/.../x!y":        {"...", "x!y"},
		"/pci0:1/" + long: {"pci0:1", long},
		"/_/+/-/:/!/..._": {"_", "+", "-", ":", "!", "..._"},
	} {
		if got, err := name.Split(path); err != api.OK || !slices.Equal(got, want) {
			t.Errorf("Split(%q): got %q and %d, want %q", path, got, err, want)
		}
	}
	for _, s := range noPaths {
		if got, err := name.Split(s); err != api.ErrNamePath || len(got) != 0 {
			t.Errorf("Split(%q): got %q and %d, want ErrNamePath", s, got, err)
		}
	}
}

// P1.2
func TestJoin(t *testing.T) {
	for _, parts := range [][]string{
		nil, {}, {""}, {"."}, {".."}, {"a", ""}, {"", "a"}, {"a", ".."}, {"/a"}, {"a/b"}, {"a b"}, {"a", strings.Repeat("b", 33)}, {"a", "\xff", "b"},
	} {
		if got, err := name.Join(parts); err != api.ErrNamePath || got != "" {
			t.Errorf("Join(%q): got %q and %d, want ErrNamePath", parts, got, err)
		}
	}
	for _, parts := range [][]string{{"a"}, {"a", "b"}, {"...", "a!b", "c:d"}, {strings.Repeat("n", 32), "0"}} {
		want := "/" + strings.Join(parts, "/")
		if got, err := name.Join(parts); err != api.OK || got != want {
			t.Errorf("Join(%q): got %q and %d, want %q", parts, got, err, want)
		}
	}
}

// P1.2: each function turns back what the other one made.
func TestSplitAndJoin(t *testing.T) {
	for _, path := range samplePaths() {
		parts, err := name.Split(path)
		if err != api.OK || len(parts) != strings.Count(path, "/") {
			t.Fatalf("Split(%q): got %q and %d", path, parts, err)
		}
		if got, err := name.Join(parts); err != api.OK || got != path {
			t.Fatalf("Join(%q): got %q and %d, want %q", parts, got, err, path)
		}
	}
}

// P1.2, R4: arguments stay as they are, and results are new.
func TestSplitAndJoinKeepNothing(t *testing.T) {
	room := []string{"a", "b", "spare"}
	if got, err := name.Join(room[:2]); got != "/a/b" || err != api.OK {
		t.Errorf("Join: got %q and %d", got, err)
	}
	if !slices.Equal(room, []string{"a", "b", "spare"}) {
		t.Errorf("Join changed its argument into %q", room)
	}
	first, _ := name.Split("/a/b")
	first[0] = "changed"
	if second, _ := name.Split("/a/b"); !slices.Equal(second, []string{"a", "b"}) {
		t.Errorf("Split: got %q behind a change of an earlier result", second)
	}
}

// P1.2, P1.3: a path has no greatest length.
func TestLongPaths(t *testing.T) {
	path := strings.Repeat("/name", 100000)
	if parts, err := name.Split(path); err != api.OK || len(parts) != 100000 {
		t.Errorf("Split: got %d names and %d", len(parts), err)
	}
	if got, err := name.Compare(path, path+"/a"); got != -1 || err != api.OK {
		t.Errorf("Compare: got %d and %d", got, err)
	}
	if got, err := name.Under(path, path+"/a"); !got || err != api.OK {
		t.Errorf("Under: got %v and %d", got, err)
	}
	if _, err := name.Split(path + "/"); err != api.ErrNamePath {
		t.Errorf("Split with a slash behind: got %d", err)
	}
}

// P1.3
func TestCompare(t *testing.T) {
	for _, c := range []struct {
		a, b string
		want int
	}{
		{"/a/b", "/a+/b", -1},
		{"/a/b", "/a/b/c", -1},
		{"/a", "/a", 0},
		{"/a/b", "/a/b", 0},
		{"/b", "/a/b/c", 1},
		{"/a/z", "/a!", -1},
		{"/a/z/z", "/a-", -1},
		{"/a.b", "/a/b", 1},
		{"/a", "/ab", -1},
		{"/a10", "/a9", -1},
		{"/Z", "/a", -1},
		{"/a/b/c", "/a/c", -1},
	} {
		if got, err := name.Compare(c.a, c.b); got != c.want || err != api.OK {
			t.Errorf("Compare(%q, %q): got %d and %d, want %d", c.a, c.b, got, err, c.want)
		}
		if got, err := name.Compare(c.b, c.a); got != -c.want || err != api.OK {
			t.Errorf("Compare(%q, %q): got %d and %d, want %d", c.b, c.a, got, err, -c.want)
		}
	}
}

// P1.3: the order of paths is the one of their lists of names.
func TestCompareGoesByNames(t *testing.T) {
	paths := samplePaths()[:500]
	for _, a := range paths {
		for _, b := range paths {
			want := slices.Compare(strings.Split(a, "/"), strings.Split(b, "/"))
			if got, err := name.Compare(a, b); got != want || err != api.OK {
				t.Fatalf("Compare(%q, %q): got %d and %d, want %d", a, b, got, err, want)
			}
		}
	}
}

// P1.3 and the chapter's consequences: the paths below a path are its neighbours, directly behind it.
func TestPathsBelowAreNeighbours(t *testing.T) {
	paths := samplePaths()
	slices.SortFunc(paths, func(a, b string) int {
		n, _ := name.Compare(a, b)
		return n
	})
	for i, dir := range paths {
		below := true
		for _, path := range paths[i+1:] {
			under, err := name.Under(dir, path)
			if err != api.OK || under && !below {
				t.Fatalf("Under(%q, %q): got %v and %d behind paths that are not below", dir, path, under, err)
			}
			below = under
		}
	}
}

// P1.3
func TestUnder(t *testing.T) {
	for _, c := range []struct {
		dir, path string
		want      bool
	}{
		{"/a", "/a/b", true},
		{"/a", "/a/b/c", true},
		{"/a/b", "/a/b/c", true},
		{"/a", "/a", false},
		{"/a/b", "/a", false},
		{"/a", "/ab", false},
		{"/a", "/ab/c", false},
		{"/a", "/a+/c", false},
		{"/a/b", "/b/b/c", false},
		{"/b", "/a/b/c", false},
	} {
		if got, err := name.Under(c.dir, c.path); got != c.want || err != api.OK {
			t.Errorf("Under(%q, %q): got %v and %d, want %v", c.dir, c.path, got, err, c.want)
		}
	}
}

// P1.3: an argument that is no path, whichever it is.
func TestCompareAndUnderRefuse(t *testing.T) {
	for _, s := range noPaths {
		for _, c := range [][2]string{{s, "/a"}, {"/a", s}, {s, s}} {
			if got, err := name.Compare(c[0], c[1]); got != 0 || err != api.ErrNamePath {
				t.Errorf("Compare(%q, %q): got %d and %d, want ErrNamePath", c[0], c[1], got, err)
			}
			if got, err := name.Under(c[0], c[1]); got || err != api.ErrNamePath {
				t.Errorf("Under(%q, %q): got %v and %d, want ErrNamePath", c[0], c[1], got, err)
			}
		}
	}
	if got, err := name.Under("/a", "/a/"); got || err != api.ErrNamePath {
		t.Errorf("Under of a path with a slash behind: got %v and %d", got, err)
	}
}
