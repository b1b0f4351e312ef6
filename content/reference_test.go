package content_test

import (
	"math/rand"
	"reflect"
	"regexp"
	"slices"
	"strconv"
	"strings"
	"testing"

	"coldplug/api"
	"coldplug/content"
)

const idClass = "[A-Za-z0-9_.-]"

// heads are the texts of the kinds ahead of their Inner contents, as the table of the chapter says them.
var heads = map[int]*regexp.Regexp{
	api.ContentFile:  regexp.MustCompile(`^fs:(` + idClass + `{1,16}):(` + idClass + `{0,16})$`),
	api.ContentRaid:  regexp.MustCompile(`^raid:(` + idClass + `{1,16}):([1-9]|1[0-6])/([1-9]|1[0-6])/([1-9]|1[0-6])$`),
	api.ContentCrypt: regexp.MustCompile(`^crypt:(` + idClass + `{1,16})$`),
	api.ContentGroup: regexp.MustCompile(`^pv:(` + idClass + `{1,16}):([1-9]|1[0-6])/([1-9]|1[0-6])$`),
	api.ContentTable: regexp.MustCompile(`^table:(` + idClass + `{1,16})$`),
}

// mostInner is how many Inner contents a kind may have; it must have one if it may.
var mostInner = map[int]int{api.ContentRaid: 1, api.ContentCrypt: 1, api.ContentGroup: 16, api.ContentTable: 16}

// read returns the content with a text that is at most so deep. It looks for borders, and not for what comes next.
func read(s string, deepest int) (api.Content, bool) {
	if s == "" {
		return api.Content{}, true
	}
	if deepest == 0 {
		return api.Content{}, false
	}
	head, inside, nested := strings.Cut(s, "(")
	if nested && !strings.HasSuffix(inside, ")") {
		return api.Content{}, false
	}
	for kind, pattern := range heads {
		words := pattern.FindStringSubmatch(head)
		if words == nil || nested != (mostInner[kind] > 0) {
			continue
		}
		c := fill(kind, words)
		if c.Slot > c.Total || c.Least > c.Total {
			return api.Content{}, false
		}
		if !nested {
			return c, true
		}
		for _, part := range parts(strings.TrimSuffix(inside, ")")) {
			inner, ok := read(part, deepest-1)
			if !ok {
				return api.Content{}, false
			}
			c.Inner = append(c.Inner, inner)
		}
		return c, len(c.Inner) <= mostInner[kind]
	}
	return api.Content{}, false
}

// fill returns a content with what stands in its head.
func fill(kind int, words []string) api.Content {
	c := api.Content{Kind: kind, ID: words[1]}
	if kind == api.ContentFile {
		c.Label = words[2]
		return c
	}
	for i, field := range []*int{&c.Slot, &c.Total, &c.Least} {
		if i+2 < len(words) {
			*field, _ = strconv.Atoi(words[i+2])
		}
	}
	return c
}

// parts cuts a text at those commas that do not stand in parentheses.
func parts(s string) []string {
	var list []string
	open, start := 0, 0
	for i := range len(s) {
		switch s[i] {
		case '(':
			open++
		case ')':
			open--
		case ',':
			if open == 0 {
				list = append(list, s[start:i])
				start = i + 1
			}
		}
	}
	return append(list, s[start:])
}

// write returns the text of a content, valid or not, by putting it into the places of the table.
func write(c api.Content) string {
	var inside []string
	for _, inner := range c.Inner {
		inside = append(inside, write(inner))
	}
	s := []string{
		"", "fs:ID:LABEL", "raid:ID:SLOT/TOTAL/LEAST(INNER)", "crypt:ID(INNER)", "pv:ID:SLOT/TOTAL(INNER)", "table:ID(INNER)",
	}[c.Kind]
	for _, place := range [][2]string{
		{"SLOT", strconv.Itoa(c.Slot)}, {"TOTAL", strconv.Itoa(c.Total)}, {"LEAST", strconv.Itoa(c.Least)},
		{"LABEL", c.Label}, {"ID", c.ID}, {"INNER", strings.Join(inside, ",")},
	} {
		s = strings.Replace(s, place[0], place[1], 1)
	}
	return s
}

// inside returns a content and all contents inside it, and the depth.
func inside(c api.Content) ([]api.Content, int) {
	list, deepest := []api.Content{c}, 0
	for _, inner := range c.Inner {
		more, deep := inside(inner)
		list = append(list, more...)
		deepest = max(deepest, deep)
	}
	if c.Kind == api.ContentNone {
		return list, 0
	}
	return list, deepest + 1
}

// made returns a random valid content that is at most so deep; its IDs and labels have small letters so that no word of the table stands in them.
func made(random *rand.Rand, deepest int) api.Content {
	if deepest == 0 || random.Intn(8) == 0 {
		return api.Content{}
	}
	c := api.Content{Kind: 1 + random.Intn(5), ID: letters(random, 1)}
	n := 0
	switch c.Kind {
	case api.ContentFile:
		c.Label = letters(random, 0)
	case api.ContentRaid, api.ContentCrypt:
		n = 1
	default:
		n = 1 + random.Intn(3)
		if random.Intn(10) == 0 {
			n = api.MaxInner
		}
	}
	if c.Kind == api.ContentRaid || c.Kind == api.ContentGroup {
		c.Total = 1 + random.Intn(api.MaxInner)
		c.Slot = 1 + random.Intn(c.Total)
	}
	if c.Kind == api.ContentRaid {
		c.Least = 1 + random.Intn(c.Total)
	}
	for range n {
		c.Inner = append(c.Inner, made(random, deepest-1))
	}
	return c
}

// letters returns a text of at least so many bytes and at most 16.
func letters(random *rand.Rand, least int) string {
	members := "abcxyz0129_.-"
	b := make([]byte, least+random.Intn(3))
	if random.Intn(10) == 0 {
		b = make([]byte, api.MaxID)
	}
	for i := range b {
		b[i] = members[random.Intn(len(members))]
	}
	return string(b)
}

// asked checks Parse of a text against the reference, and reports whether it is the text of a content.
func asked(t *testing.T, s string) bool {
	t.Helper()
	want, ok := read(s, api.MaxNest)
	err := api.OK
	switch {
	case len(s) > api.MaxText:
		want, err = api.Content{}, api.ErrContentLimit
	case !ok:
		want, err = api.Content{}, api.ErrContentForm
	}
	got, e := content.Parse(s)
	if !reflect.DeepEqual(got, want) || e != err {
		t.Fatalf("Parse(%q): got %+v and %d, want %+v and %d", s, got, e, want, err)
	}
	if err != api.OK {
		return false
	}
	if back, e := content.Format(got); back != s || e != api.OK {
		t.Fatalf("Format(%+v): got %q and %d, want %q", got, back, e, s)
	}
	return true
}

// P7.1: all short sequences of what texts consist of.
func TestParseOfAllShortTexts(t *testing.T) {
	right := 0
	var extend func(s string, most int)
	extend = func(s string, most int) {
		if asked(t, s) {
			right++
		}
		if most == 0 {
			return
		}
		for _, piece := range []string{"fs:", "raid:a:", "crypt:a", "pv:b:", "table:a", "1/1", "1/2", "/1", ":", "(", ")", ",", "a"} {
			extend(s+piece, most-1)
		}
	}
	extend("", 5)
	if right < 50 {
		t.Errorf("only %d of the texts are right", right)
	}
}

// P7.1: random contents, and their texts with bytes put in, left out or changed at every place.
func TestParseOfChangedTexts(t *testing.T) {
	random := rand.New(rand.NewSource(7))
	right, wrong, long := 0, 0, 0
	for range 200 {
		c := made(random, api.MaxNest)
		s := write(c)
		if len(s) > api.MaxText {
			long++
		}
		if got, err := content.Format(c); len(s) <= api.MaxText && (got != s || err != api.OK) {
			t.Fatalf("Format(%+v): got %q and %d, want %q", c, got, err, s)
		} else if len(s) > api.MaxText && (got != "" || err != api.ErrContentLimit) {
			t.Fatalf("Format(%+v): got %q and %d, want ErrContentLimit", c, got, err)
		}
		for range 60 {
			at := random.Intn(min(len(s), 270) + 1)
			texts := []string{s[:at], s[at:], s[:at] + s[at/2:]}
			for _, b := range "a0(),:/ " {
				texts = append(texts, s[:at]+string(b)+s[at:], s[:at]+string(b)+s[min(at+1, len(s)):])
			}
			for _, changed := range append(texts, s[:at]+s[min(at+1, len(s)):]) {
				if asked(t, changed) {
					right++
				} else {
					wrong++
				}
			}
		}
	}
	if right < 1000 || wrong < 1000 || long < 10 {
		t.Errorf("%d right texts, %d wrong ones, %d long ones: too few of a kind", right, wrong, long)
	}
}

// P7.1, P7.2: random contents, too deep ones among them.
func TestRandomContents(t *testing.T) {
	random := rand.New(rand.NewSource(70))
	deeper := 0
	for range 3000 {
		c := made(random, api.MaxNest+random.Intn(3))
		list, deep := inside(c)
		want := api.OK
		if deep > api.MaxNest {
			deeper++
			want = api.ErrContentForm
		}
		if got := content.Check(c); got != want {
			t.Fatalf("Check(%+v) of depth %d: got %d, want %d", c, deep, got, want)
		}
		if want != api.OK {
			if s, err := content.Format(c); s != "" || err != want {
				t.Fatalf("Format(%+v): got %q and %d", c, s, err)
			}
			continue
		}
		if got := content.Depth(c); got != deep {
			t.Fatalf("Depth(%+v): got %d, want %d", c, got, deep)
		}
		if got := content.Walk(c); !reflect.DeepEqual(got, list) {
			t.Fatalf("Walk(%+v): got %+v, want %+v", c, got, list)
		}
	}
	if deeper < 100 {
		t.Errorf("only %d contents were too deep", deeper)
	}
}

// P7.2: random contents against each other, and against those that differ in a single place.
func TestSameOfRandomContents(t *testing.T) {
	random := rand.New(rand.NewSource(71))
	for range 3000 {
		a, b := made(random, 3), made(random, 3)
		if got, want := content.Same(a, b), reflect.DeepEqual(a, b); got != want {
			t.Fatalf("Same(%+v, %+v): got %v, want %v", a, b, got, want)
		}
		b = deepCopy(a)
		if !content.Same(a, b) || !content.Same(a, a) {
			t.Fatalf("Same(%+v) and what is equal to it: got false", a)
		}
		place := &b
		for len(place.Inner) > 0 && random.Intn(3) > 0 {
			place = &place.Inner[random.Intn(len(place.Inner))]
		}
		changes := changesOf(place)
		changes[random.Intn(len(changes))]()
		if content.Same(a, b) || content.Same(b, a) {
			t.Fatalf("Same(%+v, %+v): got true", a, b)
		}
	}
}

// changesOf returns what changes each field of a content.
func changesOf(c *api.Content) []func() {
	return []func(){
		func() { c.Kind += 10 },
		func() { c.ID += "!" },
		func() { c.Label += "!" },
		func() { c.Slot++ },
		func() { c.Total-- },
		func() { c.Least++ },
		func() { c.Inner = append(slices.Clone(c.Inner), api.Content{}) },
	}
}

// deepCopy returns a content that shares no memory with c.
func deepCopy(c api.Content) api.Content {
	c.Inner = slices.Clone(c.Inner)
	for i := range c.Inner {
		c.Inner[i] = deepCopy(c.Inner[i])
	}
	return c
}

// P7.2, R1: contents that share memory and contain themselves in all kinds of ways, against the least set of pairs that differ.
func TestSameOfTangledContents(t *testing.T) {
	random := rand.New(rand.NewSource(72))
	counts := map[bool]int{}
	for round := range 2000 {
		memory := make([]api.Content, 2+random.Intn(14))
		for i := range memory {
			start := random.Intn(len(memory))
			end := min(start+1, len(memory))
			if round%2 == 0 {
				end = min(start+random.Intn(4)*random.Intn(2), len(memory))
			}
			memory[i] = table("t", memory[start:end]...)
			if random.Intn(10) == 0 {
				memory[i].Label = "x"
			}
		}
		differ := differing(memory)
		for i := range memory {
			for j := range memory {
				want := !differ[[2]int{i, j}]
				counts[want]++
				if got := content.Same(memory[i], memory[j]); got != want {
					t.Fatalf("Same of %d and %d of %d contents: got %v", i, j, len(memory), got)
				}
			}
		}
	}
	if counts[true] < 1000 || counts[false] < 1000 {
		t.Errorf("%d pairs are equal, %d differ: too few", counts[true], counts[false])
	}
}

// differing returns which pairs of contents differ; what is inside them has to lie in the list.
func differing(memory []api.Content) map[[2]int]bool {
	place := map[*api.Content]int{}
	for i := range memory {
		place[&memory[i]] = i
	}
	differ := map[[2]int]bool{}
	for changed := true; changed; {
		changed = false
		for i, a := range memory {
			for j, b := range memory {
				is := a.Label != b.Label || len(a.Inner) != len(b.Inner)
				for k := range min(len(a.Inner), len(b.Inner)) {
					is = is || differ[[2]int{place[&a.Inner[k]], place[&b.Inner[k]]}]
				}
				changed = changed || is != differ[[2]int{i, j}]
				differ[[2]int{i, j}] = is
			}
		}
	}
	return differ
}
