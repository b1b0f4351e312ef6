package assign_test

import (
	"fmt"
	"math"
	"math/rand"
	"reflect"
	"regexp"
	"slices"
	"strconv"
	"strings"
	"testing"

	"coldplug/api"
	"coldplug/assign"
	"coldplug/builtin"
	"coldplug/device"
	"coldplug/name"
)

// What the chapter says of values, as patterns.
var (
	texts      = regexp.MustCompile(`^[ -~]{1,256}$`)
	names      = regexp.MustCompile(`^[A-Za-z0-9_.:+!-]{1,32}$`)
	ifaceNames = regexp.MustCompile(`^[A-Za-z0-9_.+-]{1,15}$`)
	keys       = regexp.MustCompile(`^[A-Z][A-Z0-9_]{0,31}$`)
	modes      = regexp.MustCompile(`^[0-7]{1,4}$`)
	priorities = regexp.MustCompile(`^(0|-?[1-9][0-9]{0,2}|-?1000)$`)
)

// dots are the names that are none.
func dots(s string) bool { return s == "." || s == ".." }

// refPut puts a text into a list: it goes to the end and is sorted.
func refPut(l []string, s string, most int) []string {
	if slices.Contains(l, s) || len(l) == most {
		return l
	}
	return slices.Sorted(slices.Values(append(slices.Clone(l), s)))
}

// refDrop removes a text from a list.
func refDrop(l []string, s string) []string {
	var rest []string
	for _, one := range l {
		if one != s {
			rest = append(rest, one)
		}
	}
	return rest
}

// refSet is ENV{key}="value" for properties.
func refSet(l []api.Attr, key, value string) []api.Attr {
	if slices.Contains(baseKeys, key) {
		return l
	}
	at := slices.IndexFunc(l, func(a api.Attr) bool { return a.Name == key })
	if value == "" {
		return slices.DeleteFunc(slices.Clone(l), func(a api.Attr) bool { return a.Name == key })
	}
	if !texts.MatchString(value) || at < 0 && len(l) >= 64 {
		return l
	}
	rest := slices.DeleteFunc(slices.Clone(l), func(a api.Attr) bool { return a.Name == key })
	rest = append(rest, api.Attr{Name: key, Value: value})
	slices.SortFunc(rest, func(a, b api.Attr) int { return strings.Compare(a.Name, b.Name) })
	return rest
}

// refEnv is a line of the table: both ops of KeyEnv.
func refEnv(l []api.Attr, key string, op int, value string) []api.Attr {
	if op == api.OpAssign {
		return refSet(l, key, value)
	}
	if value == "" {
		return l
	}
	for _, a := range l {
		if a.Name == key {
			value = a.Value + " " + value
			if len(value) > 256 {
				value = value[:256]
			}
		}
	}
	return refSet(l, key, value)
}

// refLinks are the ops of KeySymlink.
func refLinks(l []string, op int, value string) []string {
	if op == api.OpAssign || op == api.OpFinal {
		l, op = nil, api.OpMore
	}
	for _, word := range regexp.MustCompile(`[^ ]+`).FindAllString(value, -1) {
		link, ok := name.Clean(word)
		if ok && op == api.OpMore {
			l = refPut(l, link, 16)
		}
		if ok && op == api.OpLess {
			l = refDrop(l, link)
		}
	}
	return l
}

// refTags are the ops of KeyTag.
func refTags(l []string, op int, value string) []string {
	if !names.MatchString(value) || dots(value) {
		return l
	}
	switch op {
	case api.OpAssign:
		return []string{value}
	case api.OpMore:
		return refPut(l, value, 16)
	}
	return refDrop(l, value)
}

// refRun are the ops of KeyRun.
func refRun(l []string, op int, value string) []string {
	if op != api.OpMore {
		l = nil
	}
	if texts.MatchString(value) && len(l) < 16 {
		l = append(slices.Clone(l), value)
	}
	return l
}

// refApply reads P13.2 once more.
func refApply(d api.Draft, x api.Term, value string) api.Draft {
	for _, c := range d.Closed {
		if c.Key == x.Key && c.Name == x.Name {
			return d
		}
	}
	switch x.Key {
	case api.KeyEnv:
		d.Props = refEnv(d.Props, x.Name, x.Op, value)
	case api.KeyTag:
		d.Tags = refTags(d.Tags, x.Op, value)
	case api.KeyName:
		if ifaceNames.MatchString(value) && !dots(value) {
			d.Name = value
		}
	case api.KeySymlink:
		d.Links = refLinks(d.Links, x.Op, value)
	case api.KeyOwner, api.KeyGroup:
		if names.MatchString(value) && !dots(value) && x.Key == api.KeyOwner {
			d.Owner = value
		} else if names.MatchString(value) && !dots(value) {
			d.Group = value
		}
	case api.KeyMode:
		if modes.MatchString(value) {
			n, _ := strconv.ParseInt(value, 8, 64)
			d.Mode = int(n)
		}
	case api.KeyRun:
		d.Run = refRun(d.Run, x.Op, value)
	case api.KeyLoad:
		if texts.MatchString(value) {
			d.Load = refPut(d.Load, value, 16)
		}
	case api.KeyPriority:
		if priorities.MatchString(value) {
			d.Priority, _ = strconv.Atoi(value)
		}
	}
	if x.Op == api.OpFinal {
		d.Closed = append(slices.Clone(d.Closed), api.Term{Key: x.Key, Name: x.Name})
	}
	return d
}

// refImport reads P13.3 once more.
func refImport(d api.Draft, l []api.Attr) api.Draft {
	for _, a := range l {
		if keys.MatchString(a.Name) && a.Value != "" {
			d.Props = refSet(d.Props, a.Name, a.Value)
		}
	}
	return d
}

// sound is what the chapter calls sound.
func sound(d api.Draft) bool {
	ok := device.Sorted(d.Props) && len(d.Props) <= 64 && len(d.Tags) <= 16 && len(d.Links) <= 16 && len(d.Load) <= 16 && len(d.Run) <= 16
	for _, a := range d.Props {
		ok = ok && keys.MatchString(a.Name) && texts.MatchString(a.Value)
	}
	for _, l := range [][]string{d.Tags, d.Links, d.Load} {
		ok = ok && slices.IsSorted(l) && len(slices.Compact(slices.Clone(l))) == len(l)
	}
	for _, tag := range slices.Concat(d.Tags, []string{d.Owner, d.Group}) {
		ok = ok && name.Valid(tag)
	}
	for _, link := range d.Links {
		ok = ok && name.Link(link)
	}
	for _, command := range slices.Concat(d.Load, d.Run) {
		ok = ok && texts.MatchString(command)
	}
	return ok && (d.Name == "" || name.Interface(d.Name)) && d.Priority >= -1000 && d.Priority <= 1000 && d.Mode >= 0 && d.Mode <= 4095
}

// pick returns one of some values.
func pick[T any](r *rand.Rand, l ...T) T { return l[r.Intn(len(l))] }

// randomValue returns a value that is right for one key or another, or for none.
func randomValue(r *rand.Rand) string {
	small := pick(r, "a", "b", "c", "d", "e", "lan", "t") + pick(r, "", "", "1", "2", "3", "4", "5", "6", "7", ":x", "!y")
	long := strings.Repeat(small, pick(r, 2, 5, 20, 60, 120, 300))
	return pick(r, small, small, small+" "+small, small+"/"+pick(r, "x", "..", "", "."), " "+small+"  b c1 ", long, long+"\n"+small, "",
		strconv.Itoa(r.Intn(2600)-1300), "0"+strconv.Itoa(r.Intn(9999)), strconv.FormatInt(r.Int63n(9999), 8), pick(r, ".", "..", "-0", "\n", "é", " "))
}

// randomAssignment returns an assignment; ENV has one of many names.
func randomAssignment(r *rand.Rand) api.Term {
	x := pick(r, assignments()...)
	if r.Intn(3) == 0 {
		x = api.Term{Key: api.KeyEnv, Op: pick(r, api.OpAssign, api.OpMore)}
	}
	if x.Key == api.KeyEnv {
		x.Name = pick(r, "A", "B", "DRIVER", "ID", "NUMBER") + pick(r, "", "", "1", "2", "3", "4", "5", "6", "7", "8", "9", "_", "__", "Z")
	}
	if x.Op == api.OpFinal && r.Intn(4) > 0 {
		x.Op = api.OpAssign
	}
	x.Value = randomValue(r)
	return x
}

// P13.2 and P13.3: long sequences of assignments and imports against a second reading of the chapter, and a sound draft stays sound.
func TestRandomDrafts(t *testing.T) {
	r := rand.New(rand.NewSource(13))
	full := map[string]int{}
	for range 400 {
		d := pick(r, assign.Begin(nil), rich(), assign.Begin(fullProps()[2:]))
		grows := r.Intn(2) == 0
		for range 150 {
			x, value := randomAssignment(r), randomValue(r)
			if grows && r.Intn(3) > 0 {
				x = api.Term{Key: pick(r, api.KeyTag, api.KeySymlink, api.KeyRun, api.KeyLoad), Op: api.OpMore}
			}
			want := refApply(d, x, value)
			got := assign.Apply(d, x, value)
			if r.Intn(9) == 0 {
				l := []api.Attr{{Name: randomAssignment(r).Name, Value: value}, {Name: pick(r, "A", "B", "a", "NEW", "NEW2"), Value: randomValue(r)}}
				want, got = refImport(d, l), assign.Import(d, l)
			}
			if draftIs(t, "behind "+strconv.Itoa(x.Key)+x.Name+" "+value, got, want); t.Failed() {
				t.FailNow()
			}
			if !sound(got) {
				t.Fatalf("not sound behind %+v with %q: %+v", x, value, got)
			}
			d = got
		}
		for what, most := range map[string]bool{"props": len(d.Props) == 64, "tags": len(d.Tags) == 16, "links": len(d.Links) == 16, "run": len(d.Run) == 16, "load": len(d.Load) == 16, "closed": len(d.Closed) > 2} {
			if most {
				full[what]++
			}
		}
	}
	if len(full) < 6 {
		t.Errorf("not all lists were full: %v", full)
	}
}

// The chapter's consequences: what is closed is not changed by later assignments.
func TestClosedStays(t *testing.T) {
	r := rand.New(rand.NewSource(14))
	for range 300 {
		final := api.Term{Key: pick(r, api.KeyName, api.KeySymlink, api.KeyOwner, api.KeyGroup, api.KeyMode, api.KeyRun), Op: api.OpFinal}
		d := assign.Apply(rich(), final, randomValue(r))
		closed := ofKey(d, final.Key)
		for range 60 {
			d = assign.Apply(d, randomAssignment(r), randomValue(r))
		}
		if got := ofKey(d, final.Key); got != closed {
			t.Fatalf("%d is closed: got %s, want %s", final.Key, got, closed)
		}
	}
}

// ofKey returns what a key assigns to, as a text.
func ofKey(d api.Draft, key int) string {
	switch key {
	case api.KeyName:
		return d.Name
	case api.KeySymlink:
		return fmt.Sprintf("%q", d.Links)
	case api.KeyOwner:
		return d.Owner
	case api.KeyGroup:
		return d.Group
	case api.KeyMode:
		return fmt.Sprint(d.Mode)
	}
	return fmt.Sprintf("%q", d.Run)
}

// The chapter's consequences: the order of putting elements does not matter as long as the list is not full.
func TestOrderOfPutting(t *testing.T) {
	r := rand.New(rand.NewSource(15))
	for range 200 {
		l := numbered("x", 1+r.Intn(14))
		want := rich()
		for _, s := range l {
			want = apply(apply(apply(want, "TAG", "+=", s), "SYMLINK", "+=", s), "LOAD", "+=", s)
		}
		got := rich()
		for _, key := range []string{"TAG", "SYMLINK", "LOAD"} {
			for _, i := range r.Perm(len(l)) {
				got = apply(got, key, "+=", l[i])
			}
		}
		draftIs(t, "in another order", got, want)
		got = rich()
		r.Shuffle(len(l), func(i, j int) { l[i], l[j] = l[j], l[i] })
		listIs(t, apply(got, "SYMLINK", "+=", strings.Join(l, " ")).Links, want.Links...)
	}
}

// roomy returns a draft with room behind all of its lists.
func roomy(d api.Draft) api.Draft {
	d.Props, d.Closed = append(make([]api.Attr, 0, 90), d.Props...), append(make([]api.Term, 0, 90), d.Closed...)
	for _, l := range []*[]string{&d.Tags, &d.Links, &d.Run, &d.Load} {
		*l = append(make([]string, 0, 90), *l...)
	}
	return d
}

// wholeRoom returns a draft with all that stands in the room of its lists.
func wholeRoom(d api.Draft) api.Draft {
	d.Props, d.Closed = d.Props[:cap(d.Props)], d.Closed[:cap(d.Closed)]
	for _, l := range []*[]string{&d.Tags, &d.Links, &d.Run, &d.Load} {
		*l = (*l)[:cap(*l)]
	}
	return copyOf(d)
}

// spoil writes into all of the room of a draft's lists.
func spoil(d api.Draft) {
	for i := range d.Props[:cap(d.Props)] {
		d.Props[:cap(d.Props)][i] = api.Attr{Name: "SPOILT", Value: "spoilt"}
	}
	for i := range d.Closed[:cap(d.Closed)] {
		d.Closed[:cap(d.Closed)][i] = api.Term{Key: 99}
	}
	for _, l := range [][]string{d.Tags, d.Links, d.Run, d.Load} {
		for i := range l[:cap(l)] {
			l[:cap(l)][i] = "spoilt"
		}
	}
}

// R4: a draft that is given stays as it is, and so does the room behind its lists; what is returned shares no memory with it.
func TestUnchangedDrafts(t *testing.T) {
	r := rand.New(rand.NewSource(16))
	for range 3000 {
		d := rich()
		d.Closed = []api.Term{{Key: api.KeyEnv, Name: "B"}}
		d = roomy(d)
		before := wholeRoom(d)
		x, value := randomAssignment(r), randomValue(r)
		l := append(make([]api.Attr, 0, 9), propsOf("B", "2", "A", value)...)
		applied, imported := assign.Apply(d, x, value), assign.Import(d, l)
		record, _ := assign.Finish(d, kinds(), 5)
		if !reflect.DeepEqual(wholeRoom(d), before) || l[:9][2] != (api.Attr{}) || !slices.Equal(l, propsOf("B", "2", "A", value)) {
			t.Fatalf("an argument was changed by %+v with %q", x, value)
		}
		a, i, f := copyOf(applied), copyOf(imported), copyOf(api.Draft{Props: record.Props, Tags: record.Tags, Links: record.Links, Run: record.Run, Load: record.Load})
		spoil(d)
		draftIs(t, "Apply", applied, a)
		draftIs(t, "Import", imported, i)
		draftIs(t, "Finish", api.Draft{Props: record.Props, Tags: record.Tags, Links: record.Links, Run: record.Run, Load: record.Load}, f)
	}
}

// R4: results share no memory with each other, also if one is made of the other and nothing was changed.
func TestSharedMemory(t *testing.T) {
	d := roomy(rich())
	first := assign.Apply(d, api.Term{Key: api.KeyLabel, Op: api.OpAssign}, "end")
	second, third := assign.Import(first, nil), assign.Apply(first, api.Term{Key: api.KeyTag, Op: api.OpMore}, "")
	spoil(first)
	draftIs(t, "Import", second, rich())
	draftIs(t, "Apply", third, rich())
	// The room of a list that got shorter is not handed on neither.
	less := assign.Apply(third, api.Term{Key: api.KeyTag, Op: api.OpLess}, "t1")
	more := assign.Apply(less, api.Term{Key: api.KeyTag, Op: api.OpMore}, "t9")
	other := assign.Apply(less, api.Term{Key: api.KeyTag, Op: api.OpMore}, "t8")
	listIs(t, more.Tags, "t2", "t9")
	listIs(t, other.Tags, "t2", "t8")
}

// R1 and R5: terms that are no assignments, and drafts that are not sound, give one answer or another, and always the same.
func TestAnyArguments(t *testing.T) {
	odd := api.Draft{
		Props:    append(propsOf("Z", "", "A", "\n", "A", "1"), fullProps()...),
		Tags:     append([]string{"z", "", "z"}, numbered("a", 40)...),
		Links:    append([]string{"z", "..", "z"}, numbered("a", 40)...),
		Run:      numbered("r", 40),
		Load:     append([]string{"z", "", "z"}, numbered("a", 40)...),
		Name:     "a/b",
		Priority: math.MinInt,
		Mode:     math.MaxInt,
		Closed:   make([]api.Term, 100),
	}
	long := strings.Repeat("\xff /", 1<<12)
	for _, d := range []api.Draft{{}, rich(), odd} {
		for _, key := range []int{math.MinInt, -1, 0, 1, 6, 7, 12, 14, 15, 16, 17, 18, 19, 20, 21, 22, 23, 24, 25, 256 + 7, math.MaxInt} {
			for _, op := range []int{math.MinInt, -1, 0, 1, 2, 3, 4, 5, 6, 7, math.MaxInt} {
				for _, value := range []string{"", "a", "5", long} {
					x, named := api.Term{Key: key, Op: op, Value: long}, api.Term{Key: key, Name: value, Op: op}
					draftIs(t, "again", assign.Apply(d, x, value), assign.Apply(d, x, value))
					draftIs(t, "again", assign.Apply(d, named, value), assign.Apply(d, named, value))
				}
			}
		}
		draftIs(t, "again", assign.Import(d, odd.Props), assign.Import(d, odd.Props))
		for _, x := range []api.Tree{treeOf(plain(1, 1, "a")), treeOf(plain(1, 2, "a"), plain(2, 1, "b")), treeOf(make([]api.Device, 300)...), treeOf(plain(1, 0, "a"), plain(1, 1, long))} {
			for _, index := range []int{math.MinInt, 0, 1, 2} {
				first, ok := assign.Finish(d, x, index)
				again, same := assign.Finish(d, x, index)
				if ok != same || !reflect.DeepEqual(first, again) {
					t.Errorf("Finish: %+v and %v, then %+v and %v", first, ok, again, same)
				}
			}
		}
	}
}

// The keys of the tests are the base keys of layer 11.
func TestBaseKeysAgree(t *testing.T) {
	for _, key := range baseKeys {
		if !builtin.Key(key) {
			t.Errorf("%s is no base key", key)
		}
	}
}
