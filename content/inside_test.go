package content_test

import (
	"reflect"
	"testing"

	"coldplug/api"
	"coldplug/content"
)

// P7.2
func TestDepth(t *testing.T) {
	for _, c := range []struct {
		c    api.Content
		want int
	}{
		{none(), 0},
		{api.Content{Inner: []api.Content{}}, 0},
		{file("a", ""), 1},
		{raid("r", 1, 1, 1, file("a", "")), 2},
		{raid("r", 1, 1, 1, none()), 1},
		{crypt("c", none()), 1},
		{group("g", 1, 1, none(), none()), 1},
		{table("t", none(), file("a", "")), 2},
		{table("t", crypt("c", file("a", "")), file("a", "")), 3},
		{table("t", file("a", ""), crypt("c", file("a", ""))), 3},
		{table("t", none(), crypt("c", none()), none()), 2},
		{table("t", nested(2, none()), nested(4, none()), nested(3, none())), 5},
		{nested(5, file("a", "")), 6},
		{nested(6, none()), 6},
	} {
		if got := content.Depth(c.c); got != c.want {
			t.Errorf("Depth(%+v): got %d, want %d", c.c, got, c.want)
		}
	}
}

// P7.2
func TestWalk(t *testing.T) {
	a, b := file("a", ""), file("b", "x")
	c := crypt("c", a)
	u := table("u", none(), b, c)
	g := group("g", 1, 2, u, none(), a)
	for _, w := range []struct {
		c    api.Content
		want []api.Content
	}{
		{none(), []api.Content{none()}},
		{a, []api.Content{a}},
		{c, []api.Content{c, a}},
		{crypt("c", none()), []api.Content{crypt("c", none()), none()}},
		{u, []api.Content{u, none(), b, c, a}},
		{g, []api.Content{g, u, none(), b, c, a, none(), a}},
		{table("t", a, a), []api.Content{table("t", a, a), a, a}},
		{nested(6, none()), []api.Content{nested(6, none()), nested(5, none()), nested(4, none()), nested(3, none()), nested(2, none()), nested(1, none()), none()}},
	} {
		if got := content.Walk(w.c); !reflect.DeepEqual(got, w.want) {
			t.Errorf("Walk(%+v): got %+v, want %+v", w.c, got, w.want)
		}
	}
}

// P7.2: as many contents inside as there may be, in four layers.
func TestWalkOfMany(t *testing.T) {
	c := none()
	want := 1
	for range 4 {
		inner := make([]api.Content, api.MaxInner)
		for i := range inner {
			inner[i] = c
		}
		c = table("t", inner...)
		want = 1 + 16*want
	}
	if got := content.Walk(c); len(got) != want || content.Depth(c) != 4 {
		t.Errorf("got %d contents of depth %d, want %d", len(got), content.Depth(c), want)
	}
}

// P7.2: every field counts, at every place, in contents that are valid or not.
func TestSame(t *testing.T) {
	for _, sample := range append(samples(), group("g", 1, 1, crypt("c", file("a", "")), none()), api.Content{Kind: -7, ID: "!", Label: "\x00", Slot: -1, Total: 99, Least: 5, Inner: []api.Content{{Slot: 3}}}) {
		for _, a := range []api.Content{sample, nested(1, sample), nested(9, sample), table("t", none(), sample, none())} {
			b := deepCopy(a)
			if !content.Same(a, b) || !content.Same(b, a) || !content.Same(a, a) {
				t.Errorf("Same(%+v) and its copy: got false", a)
			}
			for place := &b; place != nil; place = lastInner(place) {
				for i := range changesOf(place) {
					before := *place
					changesOf(place)[i]()
					if content.Same(a, b) || content.Same(b, a) {
						t.Errorf("Same(%+v, %+v): got true", a, b)
					}
					*place = before
				}
			}
		}
	}
	for i, a := range samples() {
		for j, b := range samples() {
			if got := content.Same(a, b); got != (i == j) {
				t.Errorf("Same(%+v, %+v): got %v", a, b, got)
			}
		}
	}
}

// lastInner returns the last content directly inside another one, or nil if there is none.
func lastInner(c *api.Content) *api.Content {
	if len(c.Inner) == 0 {
		return nil
	}
	return &c.Inner[len(c.Inner)-1]
}

// P7.2: the order and the number of Inner contents count; a nil slice and an empty one mean the same.
func TestSameInner(t *testing.T) {
	a, b := file("a", ""), file("b", "")
	for _, c := range []struct {
		a, b api.Content
		want bool
	}{
		{table("t", a, b), table("t", b, a), false},
		{table("t", a, b, a), table("t", a, b, a), true},
		{table("t", a, b, a), table("t", a, a, b), false},
		{table("t", a, a), table("t", a), false},
		{table("t", a, none()), table("t", a), false},
		{table("t", none(), a), table("t", none(), a), true},
		{table("t"), table("t"), true},
		{crypt("c", none()), crypt("c"), false},
		{crypt("c", crypt("c", a)), crypt("c", a), false},
		{api.Content{Inner: []api.Content{}}, none(), true},
		{crypt("c", api.Content{Inner: []api.Content{}}), crypt("c", none()), true},
		{nested(1000, a), nested(1000, a), true},
		{nested(1000, a), nested(1000, b), false},
		{nested(1000, a), nested(1001, a), false},
	} {
		if content.Same(c.a, c.b) != c.want || content.Same(c.b, c.a) != c.want {
			t.Errorf("Same(%+v, %+v): got %v", c.a, c.b, !c.want)
		}
	}
}

// ring returns a content that contains itself behind so many layers, the last of which has this ID.
func ring(layers int, last string) api.Content {
	list := make([]api.Content, layers)
	for i := range list {
		next := (i + 1) % layers
		list[i] = crypt("c")
		list[i].Inner = list[next : next+1]
	}
	list[layers-1].ID = last
	return list[0]
}

// refused checks that a content is not valid, and that all calls with it end; it prints nothing of the content, which may be endless.
func refused(t *testing.T, c api.Content) {
	t.Helper()
	if got := content.Check(c); got != api.ErrContentForm {
		t.Errorf("Check: got %d, want ErrContentForm", got)
	}
	if got, err := content.Format(c); got != "" || err != api.ErrContentForm {
		t.Errorf("Format: got %q and %d, want ErrContentForm", got, err)
	}
	content.Depth(c)
	content.Walk(c)
}

// R1: contents that contain themselves are not valid, and can be compared all the same.
func TestRings(t *testing.T) {
	for layers := 1; layers <= 20; layers++ {
		r := ring(layers, "x")
		refused(t, r)
		refused(t, table("t", none(), r))
		for other := 1; other <= 20; other++ {
			if got, want := content.Same(r, ring(other, "x")), layers == other; got != want {
				t.Errorf("Same of rings of %d and %d with one other layer: got %v", layers, other, got)
			}
			if !content.Same(ring(layers, "c"), ring(other, "c")) {
				t.Errorf("Same of rings of %d and %d equal layers: got false", layers, other)
			}
			if content.Same(ring(layers, "c"), nested(other, none())) {
				t.Errorf("Same of a ring of %d and a chain of %d: got true", layers, other)
			}
		}
	}
	if a, b := ring(30011, "c"), ring(30013, "c"); !content.Same(a, b) || content.Same(a, ring(30013, "x")) {
		t.Error("Same of long rings")
	}
}

// layered returns a content with a leaf behind so many layers, each of which has the same memory inside twice.
func layered(layers int, leaf api.Content) api.Content {
	c := leaf
	for range layers {
		c = table("t", c, c)
	}
	return c
}

// R1: contents with much in little memory, and very deep ones.
func TestSharedLayers(t *testing.T) {
	for _, layers := range []int{3, 5, 60, 2000} {
		a, b, c := layered(layers, file("a", "")), layered(layers, file("a", "")), layered(layers, file("b", ""))
		if !content.Same(a, b) || content.Same(a, c) || !content.Same(a, a) {
			t.Errorf("Same of %d layers", layers)
		}
		if layers >= api.MaxNest {
			refused(t, a)
		}
	}
	a, b := nested(300000, file("a", "")), nested(300000, file("b", ""))
	if content.Same(a, b) || !content.Same(a, a) {
		t.Error("Same of very deep contents")
	}
	refused(t, a)
}

// spoil changes everything in the memory of a content, and the spare capacity of its slices.
func spoil(c *api.Content) {
	c.ID, c.Label, c.Slot = "spoilt", "spoilt", -1
	c.Inner = c.Inner[:cap(c.Inner)]
	for i := range c.Inner {
		spoil(&c.Inner[i])
	}
}

// R4: what Walk and Parse return shares no memory with anything, nor among itself.
func TestResultsAreNew(t *testing.T) {
	c := group("g", 1, 2, table("u", none(), file("b", "x"), crypt("c", file("a", ""))), none(), crypt("d", none()))
	want, _ := inside(deepCopy(c))
	for i := range want {
		got := content.Walk(c)
		spoil(&got[i])
		for j := range want {
			if i != j && !reflect.DeepEqual(got[j], want[j]) {
				t.Errorf("Walk: %d is %+v behind a change of %d", j, got[j], i)
			}
		}
		if !reflect.DeepEqual(c, want[0]) {
			t.Fatalf("Walk: the argument is %+v behind a change of %d", c, i)
		}
	}
	s := write(want[0])
	got, _ := content.Parse(s)
	spoil(&got)
	if again, err := content.Parse(s); !reflect.DeepEqual(again, want[0]) || err != api.OK {
		t.Errorf("Parse: got %+v behind a change of an earlier result", again)
	}
	two, _ := content.Parse("table:t(table:a(,fs:a:),table:a(,fs:a:))")
	spoil(&two.Inner[0])
	if !reflect.DeepEqual(two.Inner[1], table("a", none(), file("a", ""))) {
		t.Errorf("Parse: the second content is %+v behind a change of the first one", two.Inner[1])
	}
}

// R4: arguments, and the spare capacity of their slices, stay as they are.
func TestArgumentsStay(t *testing.T) {
	room := []api.Content{file("a", ""), crypt("c", file("b", "")), file("spare", ""), file("spare", "")}
	before := deepCopy(api.Content{Inner: room})
	c := table("t")
	c.Inner = room[:2]
	content.Check(c)
	content.Format(c)
	content.Depth(c)
	for _, inner := range content.Walk(c) {
		spoil(&inner)
	}
	content.Same(c, table("t", room[2:]...))
	content.Same(c, c)
	if !reflect.DeepEqual(room, before.Inner) {
		t.Errorf("the memory of an argument became %+v", room)
	}
}
