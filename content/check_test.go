package content_test

import (
	"math"
	"strings"
	"testing"

	"coldplug/api"
	"coldplug/content"
)

// samples returns a valid content of each kind.
func samples() []api.Content {
	return []api.Content{
		none(), file("a", "b"), raid("a", 2, 3, 1, none()), crypt("a", none()), group("a", 2, 3, none(), none()), table("a", none(), none()),
	}
}

// checked checks what Check and Format say of a content.
func checked(t *testing.T, c api.Content, valid bool) {
	t.Helper()
	want := api.ErrContentForm
	if valid {
		want = api.OK
	}
	if got := content.Check(c); got != want {
		t.Errorf("Check(%+v): got %d, want %d", c, got, want)
	}
	if got, err := content.Format(c); err != want || !valid && got != "" {
		t.Errorf("Format(%+v): got %q and %d, want %d", c, got, err, want)
	}
}

// P7.1: each field alone, in a content of each kind.
func TestFieldsOfKinds(t *testing.T) {
	long := strings.Repeat("x", api.MaxID)
	for kind, sample := range samples() {
		checked(t, sample, true)
		for _, id := range []string{"", "b", "..", long, long + "x", "a b", "é", "a:"} {
			c := sample
			c.ID = id
			checked(t, c, (id == "") == (kind == api.ContentNone) && (id == "" || id == "b" || id == ".." || id == long))
		}
		for _, label := range []string{"", "c", ".", long, long + "x", "a b", "\x00", "a)"} {
			c := sample
			c.Label = label
			checked(t, c, label == "" || kind == api.ContentFile && (label == "c" || label == "." || label == long))
		}
		slots := kind == api.ContentRaid || kind == api.ContentGroup
		for _, n := range []int{math.MinInt, -1, 0, 1, 2, 3, 4, 16, 17, math.MaxInt} {
			c := sample
			c.Slot = n
			checked(t, c, slots && 1 <= n && n <= 3 || !slots && n == 0)
			c = sample
			c.Total = n
			checked(t, c, slots && 2 <= n && n <= 16 || !slots && n == 0)
			c = sample
			c.Least = n
			checked(t, c, kind == api.ContentRaid && 1 <= n && n <= 3 || kind != api.ContentRaid && n == 0)
		}
		for n := range 19 {
			c := sample
			c.Inner = make([]api.Content, n)
			most := mostInner[kind]
			checked(t, c, min(most, 1) <= n && n <= most)
		}
	}
}

// P7.1: what is no kind.
func TestKinds(t *testing.T) {
	for _, kind := range []int{math.MinInt, -1, 6, 7, 256, math.MaxInt} {
		for _, c := range samples() {
			c.Kind = kind
			checked(t, c, false)
			checked(t, table("t", none(), c), false)
		}
		for n := range 4 {
			checked(t, api.Content{Kind: kind, Inner: make([]api.Content, n)}, false)
			checked(t, api.Content{Kind: kind, ID: "a", Inner: make([]api.Content, n)}, false)
			checked(t, api.Content{Kind: kind, ID: "a", Slot: 1, Total: 1, Inner: make([]api.Content, n)}, false)
		}
	}
	for kind := range 6 {
		// No other kind has these fields, but that a table may have what a crypt layer has.
		for own, c := range samples() {
			c.Kind = kind
			checked(t, c, kind == own || kind == api.ContentTable && own == api.ContentCrypt)
		}
	}
}

// P7.1: Inner contents have to be valid, wherever they are.
func TestInnerContents(t *testing.T) {
	for _, wrong := range []api.Content{{ID: "a"}, {Inner: []api.Content{{}}}, {Slot: 1}, {Label: "a"}, {Least: 1}, {Total: 1}, file("", ""), file("a", "!"), crypt("c"), table("t"), raid("r", 1, 1, 1), raid("r", 1, 1, 2, none()), {Kind: 6}} {
		checked(t, wrong, false)
		checked(t, crypt("c", wrong), false)
		checked(t, raid("r", 1, 1, 1, wrong), false)
		checked(t, group("g", 1, 1, wrong), false)
		checked(t, group("g", 1, 1, none(), file("a", ""), wrong), false)
		checked(t, table("t", wrong, none()), false)
		checked(t, table("t", file("a", ""), crypt("c", table("u", none(), wrong))), false)
		checked(t, nested(5, wrong), false)
	}
}

// P7.1: the greatest depth; ContentNone adds nothing to it, wherever it is.
func TestGreatestDepth(t *testing.T) {
	for layers := range 12 {
		checked(t, nested(layers, none()), layers <= 6)
		checked(t, nested(layers, file("a", "")), layers <= 5)
		checked(t, nested(layers, table("t", none(), none(), none())), layers <= 5)
		checked(t, nested(layers, table("t", none(), file("a", ""))), layers <= 4)
		checked(t, table("t", none(), nested(layers, none()), none()), layers <= 5)
		checked(t, group("g", 1, 1, file("a", ""), nested(layers, none())), layers <= 5)
		checked(t, raid("r", 1, 1, 1, nested(layers, none())), layers <= 5)
	}
}

// P7.1: a nil slice and an empty one mean the same.
func TestEmptyInner(t *testing.T) {
	checked(t, api.Content{Inner: []api.Content{}}, true)
	c := file("a", "")
	c.Inner = []api.Content{}
	checked(t, c, true)
	checked(t, crypt("c", c), true)
	c = crypt("c")
	c.Inner = []api.Content{}
	checked(t, c, false)
}
