package ruleset

import (
	"cmp"
	"slices"

	"coldplug/api"
)

// firsts returns the first file of each name. It goes backwards, so that a file takes the place of those behind it.
func firsts(dirs [][]api.File) map[string]api.File {
	files := map[string]api.File{}
	for _, dir := range slices.Backward(dirs) {
		for _, f := range slices.Backward(dir) {
			files[f.Name] = f
		}
	}
	return files
}

// byName is the order in which files are read.
func byName(a, b api.File) int { return cmp.Compare(a.Name, b.Name) }

// differs reports whether one of two sets of files lacks a name, or has another text for it. An empty text is not the same as none.
func differs(a, b map[string]api.File, name string) bool {
	was, inA := a[name]
	is, inB := b[name]
	return inA != inB || was.Text != is.Text
}
