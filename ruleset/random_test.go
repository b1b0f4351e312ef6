package ruleset_test

import (
	"math/rand"
	"slices"
	"strconv"
	"strings"
	"testing"

	"coldplug/api"
	"coldplug/ruleset"
)

// pick returns one of some values.
func pick[T any](r *rand.Rand, l ...T) T { return l[r.Intn(len(l))] }

// randomDirs returns directories with few names, some of which are wrong, or many.
func randomDirs(r *rand.Rand) [][]api.File {
	most := pick(r, 4, 8, 40, 100)
	wrong := r.Intn(3) == 0
	var dirs [][]api.File
	for range r.Intn(6) {
		var l []api.File
		for range r.Intn(most) {
			f := file("f"+strconv.Itoa(r.Intn(most)), pick(r, "", "1", "2", "3"))
			if wrong && r.Intn(most) == 0 {
				f.Name = pick(r, "", ".", "..", "a/b", "é", "a b", strings.Repeat("n", 33), "...", "A", strings.Repeat("n", 32))
			}
			// Otherwise nearly all directories would have a name twice.
			if at(l, f.Name) < 0 || wrong && r.Intn(most) == 0 {
				l = append(l, f)
			}
		}
		dirs = append(dirs, l)
	}
	return dirs
}

// P17.1, P17.2: random directories against a second reading of the chapter.
func TestRandomDirs(t *testing.T) {
	r := rand.New(rand.NewSource(17))
	seen := map[api.Errno]int{}
	for range 20000 {
		dirs := randomDirs(r)
		want := refCheck(dirs)
		checked(t, want, dirs...)
		if want == api.OK {
			mergedAre(t, refMerge(dirs), dirs...)
		}
		seen[want]++
	}
	for _, err := range []api.Errno{api.OK, api.ErrRulesetName, api.ErrRulesetLimit} {
		if seen[err] < 500 {
			t.Errorf("%d was seen %d times only", err, seen[err])
		}
	}
}

// randomText returns the text of a rule file with right and wrong lines.
func randomText(r *rand.Rand) string {
	var b strings.Builder
	for range pick(r, 0, 1, 5, 100, 600) {
		label, other := pick(r, "x", "y", "z"), pick(r, "x", "y", "z")
		b.WriteString(pick(r, tag, tag, "\n", "#\n", "TAG+=\\\n\"a\"\n", "GOTO=\""+label+"\"\n", "LABEL=\""+label+"\"\n", "LABEL=\""+label+"\", GOTO=\""+other+"\"\n", ",\n", "FOO=\"\"\n", "A{\n", "TAG+=\"%\"\n"))
	}
	return b.String()
}

// P17.3: random files against a second reading of the chapter.
func TestRandomLoads(t *testing.T) {
	r := rand.New(rand.NewSource(18))
	seen := map[api.Errno]int{}
	for range 1000 {
		var files []api.File
		for range r.Intn(6) {
			files = append(files, file(pick(r, "a", "b", "c", "d"), randomText(r)))
		}
		rules, faults := refLoad(files)
		gotRules, gotFaults := ruleset.Load(files)
		if !sameRules(gotRules, rules) || !slices.Equal(gotFaults, faults) {
			t.Fatalf("%q: got %v and %v, want %v and %v", files, placesOf(gotRules), gotFaults, placesOf(rules), faults)
		}
		for _, f := range faults {
			seen[f.Errno]++
		}
	}
	for _, err := range []api.Errno{api.ErrRulesetLimit, api.ErrGrammarLabel, api.ErrGrammarKey, api.ErrLexerOpen} {
		if seen[err] < 1000 {
			t.Errorf("%d was seen %d times only", err, seen[err])
		}
	}
}

// randomFiles returns files with few names and texts, some of them with the same name.
func randomFiles(r *rand.Rand) []api.File {
	var l []api.File
	for range r.Intn(8) {
		l = append(l, file(pick(r, "", "a", "b", "B", "a/b", "bb", "10", "9"), pick(r, "", "1", "2")))
	}
	return l
}

// P17.4: random lists against a second reading of the chapter.
func TestRandomChanges(t *testing.T) {
	r := rand.New(rand.NewSource(19))
	seen := map[int]int{}
	for range 20000 {
		a, b := randomFiles(r), randomFiles(r)
		want := refChanged(a, b)
		changedAre(t, a, b, want...)
		changedAre(t, a, a)
		seen[len(want)]++
	}
	for n := range 8 {
		if seen[n] < 100 {
			t.Errorf("%d changes were seen %d times only", n, seen[n])
		}
	}
}
