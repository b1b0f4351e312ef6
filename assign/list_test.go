package assign_test

import (
	"slices"
	"strings"
	"testing"

	"coldplug/api"
	"coldplug/assign"
)

// namesAreRight are names, and wrong are texts that are none.
var (
	namesAreRight = []string{"a", "A.b_c:d+e-f!9", strings.Repeat("n", api.MaxName), "..."}
	namesAreWrong = []string{"", ".", "..", "a b", " a", "a ", "a/b", "a@", "a\n", "é", strings.Repeat("n", api.MaxName+1)}
)

// P13.2: the chapter's examples.
func TestListExamples(t *testing.T) {
	d := assign.Begin(nil)
	listIs(t, apply(d, "SYMLINK", "+=", "b a ../c b").Links, "a", "b")
	draftIs(t, "TAG", apply(d, "TAG", "=", "x y"), d)
}

// P13.2: TAG with each of its ops.
func TestTags(t *testing.T) {
	d := rich()
	for op, want := range map[string][]string{"=": {"t11"}, "+=": {"t1", "t11", "t2"}, "-=": {"t1", "t2"}} {
		changed := d
		changed.Tags = want
		draftIs(t, "TAG"+op, apply(d, "TAG", op, "t11"), changed)
	}
	listIs(t, apply(d, "TAG", "+=", "t1").Tags, "t1", "t2")
	listIs(t, apply(d, "TAG", "+=", "t3", "+=", "t0").Tags, "t0", "t1", "t2", "t3")
	listIs(t, apply(d, "TAG", "-=", "t1").Tags, "t2")
	listIs(t, apply(d, "TAG", "-=", "t2", "-=", "t1", "-=", "t1").Tags)
	listIs(t, apply(d, "TAG", "=", "t2").Tags, "t2")
	for _, op := range []string{"=", "+="} {
		for _, name := range namesAreRight {
			listIs(t, apply(api.Draft{}, "TAG", op, name).Tags, name)
			listIs(t, apply(api.Draft{}, "TAG", op, name, "-=", name).Tags)
		}
	}
}

// P13.2: what is no name changes no tags; it is not divided into words.
func TestWrongTags(t *testing.T) {
	for _, op := range []string{"=", "+=", "-="} {
		for _, value := range slices.Concat(namesAreWrong, []string{"t1 t2"}) {
			draftIs(t, "TAG"+op+value, apply(rich(), "TAG", op, value), rich())
		}
	}
}

// P13.2: SYMLINK goes through the words of its value, in order.
func TestLinks(t *testing.T) {
	d := rich()
	for op, want := range map[string][]string{
		"=":  {"disk/b", "disk/c"},
		":=": {"disk/b", "disk/c"},
		"+=": {"disk/a", "disk/b", "disk/c"},
		"-=": {"disk/a"},
	} {
		changed := d
		changed.Links = want
		if op == ":=" {
			changed.Closed = []api.Term{{Key: api.KeySymlink}}
		}
		draftIs(t, "SYMLINK"+op, apply(d, "SYMLINK", op, " disk/c  disk/b "), changed)
	}
	for _, value := range []string{"", " ", "   "} {
		listIs(t, apply(d, "SYMLINK", "=", value).Links)
		listIs(t, apply(d, "SYMLINK", ":=", value).Links)
		draftIs(t, "SYMLINK+=", apply(d, "SYMLINK", "+=", value), d)
		draftIs(t, "SYMLINK-=", apply(d, "SYMLINK", "-=", value), d)
	}
	listIs(t, apply(d, "SYMLINK", "-=", "disk/c disk/b disk/b disk/a").Links)
}

// P13.2: each word is cleaned, also those that are removed; words that name.Clean does not accept are left out.
func TestCleanLinks(t *testing.T) {
	d := api.Draft{}
	longest, tooLong := strings.Repeat("l", api.MaxText), strings.Repeat("l", api.MaxText+1)
	listIs(t, apply(d, "SYMLINK", "+=", "/x//y/./ a!b \t é x/y a_b").Links, "_", "__", "a_b", "x/y")
	listIs(t, apply(d, "SYMLINK", "+=", ". .. / ./. a/../b ../x x/..").Links)
	listIs(t, apply(d, "SYMLINK", "+=", tooLong+" "+longest+" /"+longest+"/").Links, longest)
	listIs(t, apply(d, "SYMLINK", "+=", "x/y a_b c", "-=", "a\nb ../c /x/y/").Links, "c")
	listIs(t, apply(d, "SYMLINK", "=", "b/../a").Links)
	listIs(t, apply(d, "SYMLINK", "+=", "x\ty\nz").Links, "x_y_z")
}

// P13.2: RUN keeps the order of its commands, which may be equal.
func TestRun(t *testing.T) {
	d := rich()
	for op, want := range map[string][]string{"=": {"run z"}, ":=": {"run z"}, "+=": {"run z", "run a", "run z"}} {
		changed := d
		changed.Run = want
		if op == ":=" {
			changed.Closed = []api.Term{{Key: api.KeyRun}}
		}
		draftIs(t, "RUN"+op, apply(d, "RUN", op, "run z"), changed)
	}
	longest := strings.Repeat("r", api.MaxText)
	listIs(t, apply(api.Draft{}, "RUN", "+=", "b", "+=", " ", "+=", longest, "+=", "a", "+=", "b").Run, "b", " ", longest, "a", "b")
	for _, value := range []string{"", "\n", "é", longest + "r"} {
		draftIs(t, "RUN+=", apply(d, "RUN", "+=", value), d)
		listIs(t, apply(d, "RUN", "=", value).Run)
		listIs(t, apply(d, "RUN", ":=", value).Run)
	}
}

// P13.2: LOAD puts its aliases where they belong.
func TestLoad(t *testing.T) {
	d := rich()
	changed := d
	changed.Load = []string{"pci:d1", "pci:d2 *", "usb:*"}
	draftIs(t, "LOAD+=", apply(d, "LOAD", "+=", "pci:d2 *", "+=", "usb:*"), changed)
	longest := strings.Repeat("r", api.MaxText)
	listIs(t, apply(api.Draft{}, "LOAD", "+=", "b", "+=", " ", "+=", longest, "+=", "a", "+=", "b").Load, " ", "a", "b", longest)
	for _, value := range []string{"", "\n", "é", longest + "r"} {
		draftIs(t, "LOAD+=", apply(d, "LOAD", "+=", value), d)
	}
}

// P13.2: behind as many elements as a list may have none is put into it, neither in front nor at the end.
func TestFullLists(t *testing.T) {
	d := api.Draft{Tags: numbered("t", api.MaxTags), Links: numbered("t", api.MaxLinks), Run: numbered("t", api.MaxRun), Load: numbered("t", api.MaxRun)}
	for _, value := range []string{"a", "t0001", "z", "t000"} {
		for _, key := range []string{"TAG", "SYMLINK", "RUN", "LOAD"} {
			draftIs(t, key, apply(d, key, "+=", value), d)
		}
	}
	less := apply(apply(d, "TAG", "-=", "t005"), "SYMLINK", "-=", "t005 t006")
	listIs(t, less.Tags, slices.Delete(numbered("t", api.MaxTags), 5, 6)...)
	listIs(t, less.Links, slices.Delete(numbered("t", api.MaxLinks), 5, 7)...)
	listIs(t, apply(less, "TAG", "+=", "t005").Tags, d.Tags...)
	listIs(t, apply(less, "SYMLINK", "+=", "t005 t006 t007 z").Links, d.Links...)
	listIs(t, apply(less, "SYMLINK", "+=", "z a b").Links, slices.Concat([]string{"a"}, less.Links, []string{"z"})...)
	listIs(t, apply(d, "TAG", "=", "x").Tags, "x")
	listIs(t, apply(d, "SYMLINK", "=", "x").Links, "x")
	listIs(t, apply(d, "RUN", "=", "x").Run, "x")
	listIs(t, apply(api.Draft{}, "SYMLINK", "=", strings.Join(numbered("t", 99), " ")).Links, d.Links...)
}
