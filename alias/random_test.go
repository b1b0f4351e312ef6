package alias_test

import (
	"math/rand"
	"slices"
	"testing"

	"coldplug/alias"
	"coldplug/api"
)

// randomPattern returns a pattern of at most three tokens in each alternative.
func randomPattern(r *rand.Rand, known reader) string {
	alternatives := make([][]int, 1+r.Intn(2)*r.Intn(3))
	for i := range alternatives {
		for range r.Intn(4) {
			alternatives[i] = append(alternatives[i], r.Intn(len(tokens())))
		}
	}
	return known.learn(alternatives)
}

// randomName returns a name that a module may have.
func randomName(r *rand.Rand) string {
	return []string{"a", "b", "B", "ab", "!", "z"}[r.Intn(6)]
}

// randomConfig returns a valid configuration with few names.
func randomConfig(r *rand.Rand, known reader) api.Config {
	var c api.Config
	for range r.Intn(5) {
		m := module(randomName(r))
		for range r.Intn(4) {
			m.Aliases = append(m.Aliases, randomPattern(r, known))
		}
		if !slices.ContainsFunc(c.Modules, func(x api.Module) bool { return x.Name == m.Name }) {
			c.Modules = append(c.Modules, m)
		}
	}
	for range r.Intn(3) {
		c.Blocked = append(c.Blocked, randomName(r))
	}
	for range r.Intn(4) {
		e := api.Attr{Name: randomPattern(r, known), Value: randomName(r)}
		if r.Intn(8) == 0 {
			e.Name += "["
		}
		c.Extra = append(c.Extra, e)
	}
	return c
}

// P18.2: random configurations against a second reading of the chapter.
func TestRandomFinds(t *testing.T) {
	r, known, all := rand.New(rand.NewSource(18)), reader{}, texts(4)
	seen := map[int]int{}
	for range 1500 {
		c := randomConfig(r, known)
		checked(t, "random", c, api.OK)
		x := alias.New(c)
		for _, s := range all {
			want := known.refFind(c, s)
			if got := x.Find(s); !slices.Equal(got, want) {
				t.Fatalf("the index of %+v, asked for %q: got %q, want %q", c, s, got, want)
			}
			seen[len(want)]++
		}
		for range 20 {
			s := all[r.Intn(len(all))]
			foundAre(t, c, s, known.refFind(c, s)...)
		}
	}
	for n := range 4 {
		if seen[n] < 1000 {
			t.Errorf("%d modules were found %d times only", n, seen[n])
		}
	}
}

// P18.3: random configurations against a second reading of the chapter. The least text of two such patterns has at most four bytes.
func TestRandomShared(t *testing.T) {
	r, known, all := rand.New(rand.NewSource(19)), reader{}, texts(4)
	seen := map[int]int{}
	for range 20000 {
		c := randomConfig(r, known)
		a, b := randomName(r), randomName(r)
		want, ok := known.refShared(c, a, b, all)
		sharedIs(t, c, a, b, want, ok)
		if ok {
			seen[len(want)]++
		} else {
			seen[-1]++
		}
	}
	for _, n := range []int{-1, 0, 1, 2, 3} {
		if seen[n] < 30 {
			t.Errorf("least texts of %d bytes were seen %d times only", n, seen[n])
		}
	}
}

// The chapter's consequences: Shared tells of two modules that are found by one alias by their own patterns, and both are found by the text that it returns, unless it is empty.
func TestFoundAreShared(t *testing.T) {
	r, known, all := rand.New(rand.NewSource(20)), reader{}, texts(4)
	seen := 0
	for range 500 {
		c := randomConfig(r, known)
		c.Blocked, c.Extra = nil, nil
		x := alias.New(c)
		for range 50 {
			names := x.Find(all[r.Intn(len(all))])
			if len(names) < 2 {
				continue
			}
			a, b := names[0], names[len(names)-1]
			text, ok := alias.Shared(c, a, b)
			found := x.Find(text)
			if !ok || text != "" && (!slices.Contains(found, a) || !slices.Contains(found, b)) {
				t.Fatalf("Shared of %q and %q with %+v: got %q and %v", a, b, c, text, ok)
			}
			seen++
		}
	}
	if seen < 500 {
		t.Errorf("two modules were found %d times only", seen)
	}
}
