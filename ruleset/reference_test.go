package ruleset_test

import (
	"regexp"
	"sort"

	"coldplug/api"
	"coldplug/grammar"
)

// names is what DOC.md's chapter 1 says of names; the two texts of dots are none of them.
var names = regexp.MustCompile(`^[A-Za-z0-9_.:+!-]{1,32}$`)

// refCheck reads P17.1 once more, with lists alone.
func refCheck(dirs [][]api.File) api.Errno {
	var different []string
	err := api.OK
	for _, dir := range dirs {
		for i, f := range dir {
			if !names.MatchString(f.Name) || f.Name == "." || f.Name == ".." || at(dir[:i], f.Name) >= 0 {
				return api.ErrRulesetName
			}
			if !contains(different, f.Name) {
				different = append(different, f.Name)
			}
			if len(different) == 65 {
				err = api.ErrRulesetLimit
			}
		}
	}
	return err
}

// at returns the place of the first file with a name, and -1 if there is none.
func at(l []api.File, name string) int {
	for i, f := range l {
		if f.Name == name {
			return i
		}
	}
	return -1
}

func contains(l []string, s string) bool {
	for _, x := range l {
		if x == s {
			return true
		}
	}
	return false
}

// refMerge reads P17.2 once more: from the first directory on, each name counts once.
func refMerge(dirs [][]api.File) []api.File {
	var seen []string
	var l []api.File
	for _, dir := range dirs {
		for _, f := range dir {
			if contains(seen, f.Name) {
				continue
			}
			seen = append(seen, f.Name)
			if len(f.Text) > 0 {
				l = append(l, f)
			}
		}
	}
	sort.Slice(l, func(i, j int) bool { return l[i].Name < l[j].Name })
	return l
}

// refLoad reads P17.3 once more: all rules are numbered before it is asked which of them stay.
func refLoad(files []api.File) ([]api.Rule, []api.Fault) {
	var stay []api.Rule
	var ofScripts, ofLimit []api.Fault
	number := 0
	for _, f := range files {
		rules, faults := grammar.Script(f)
		ofScripts = append(ofScripts, faults...)
		for _, r := range rules {
			number++
			if number <= 512 {
				stay = append(stay, r)
			} else {
				ofLimit = append(ofLimit, fault(r.File, r.Line, 170))
			}
		}
	}
	rules, ofLink := grammar.Link(stay)
	return rules, append(append(ofScripts, ofLimit...), ofLink...)
}

// refChanged reads P17.4 once more, with lists alone.
func refChanged(a, b []api.File) []string {
	var l []string
	for _, f := range append(append([]api.File{}, a...), b...) {
		i, j := at(a, f.Name), at(b, f.Name)
		same := i >= 0 && j >= 0 && a[i].Text == b[j].Text
		if !same && !contains(l, f.Name) {
			l = append(l, f.Name)
		}
	}
	sort.Strings(l)
	return l
}
