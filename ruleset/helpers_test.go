package ruleset_test

import (
	"reflect"
	"slices"
	"strconv"
	"testing"

	"coldplug/api"
	"coldplug/ruleset"
)

func file(name, text string) api.File { return api.File{Name: name, Text: text} }

// dir returns files with names and texts in turn.
func dir(l ...string) []api.File {
	var files []api.File
	for pair := range slices.Chunk(l, 2) {
		files = append(files, file(pair[0], pair[1]))
	}
	return files
}

// numbered returns files with names that end with the numbers from one number up to another one.
func numbered(from, to int, text string) []api.File {
	var files []api.File
	for n := from; n < to; n++ {
		files = append(files, file("f"+strconv.Itoa(n), text))
	}
	return files
}

func fault(name string, line int, err api.Errno) api.Fault {
	return api.Fault{File: name, Line: line, Errno: err}
}

// checked checks what Check returns, and that Merge returns the same error.
func checked(t *testing.T, want api.Errno, dirs ...[]api.File) {
	t.Helper()
	if got := ruleset.Check(dirs); got != want {
		t.Errorf("Check of %q: got %d, want %d", dirs, got, want)
	}
	files, err := ruleset.Merge(dirs)
	if err != want || want != api.OK && len(files) > 0 {
		t.Errorf("Merge of %q: got %q and %d, want the error %d", dirs, files, err, want)
	}
}

// mergedAre checks the files that Merge returns.
func mergedAre(t *testing.T, want []api.File, dirs ...[]api.File) {
	t.Helper()
	if got, err := ruleset.Merge(dirs); !slices.Equal(got, want) || err != api.OK {
		t.Errorf("Merge of %q: got %q and %d, want %q", dirs, got, err, want)
	}
}

// placesOf returns the files and lines of rules, each as a fault without an error.
func placesOf(l []api.Rule) []api.Fault {
	var places []api.Fault
	for _, r := range l {
		places = append(places, fault(r.File, r.Line, api.OK))
	}
	return places
}

// loadedAre checks where the rules that Load returns stand, and its faults.
func loadedAre(t *testing.T, rules, faults []api.Fault, files ...api.File) {
	t.Helper()
	gotRules, gotFaults := ruleset.Load(files)
	if got := placesOf(gotRules); !slices.Equal(got, rules) {
		t.Errorf("Load of %.200q: got the rules %v, want %v", files, got, rules)
	}
	if !slices.Equal(gotFaults, faults) {
		t.Errorf("Load of %.200q: got the faults %v, want %v", files, gotFaults, faults)
	}
}

// changedAre checks the names that Changed returns, in both directions.
func changedAre(t *testing.T, a, b []api.File, want ...string) {
	t.Helper()
	for _, l := range [][2][]api.File{{a, b}, {b, a}} {
		if got := ruleset.Changed(l[0], l[1]); !slices.Equal(got, want) {
			t.Errorf("Changed of %q and %q: got %q, want %q", l[0], l[1], got, want)
		}
	}
}

// sameRules reports whether two lists of rules are equal; empty lists and none are the same.
func sameRules(a, b []api.Rule) bool {
	return len(a)+len(b) == 0 || reflect.DeepEqual(a, b)
}

// roomy returns a list with equal elements and room behind its end that is filled with one of them.
func roomy[T any](l []T, behind T) []T {
	n := len(l)
	return append(slices.Clone(l), behind, behind)[:n]
}

// spoil changes all of a list, and the room behind it.
func spoil[T any](l []T, with T) {
	l = l[:cap(l)]
	for i := range l {
		l[i] = with
	}
}
