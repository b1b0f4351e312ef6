package alias_test

import (
	"regexp"
	"slices"
	"strings"

	"coldplug/api"
)

// tokens are elements of patterns, and how regular expressions write them. Of the bytes that two of them have in common the least one is in letters.
func tokens() [][2]string {
	return [][2]string{
		{"a", "a"}, {"b", "b"}, {"c", "c"}, {"?", "[ -~]"}, {"*", "[ -~]*"}, {"*", "[ -~]*"},
		{"[ab]", "[ab]"}, {"[b-c]", "[bc]"}, {"[!a]", "[ -`b-~]"}, {"[!a-c]", "[ -`d-~]"},
	}
}

const letters = " abc"

// texts returns all texts of at most this length that consist of letters, the least ones first.
func texts(length int) []string {
	all := []string{""}
	for start := 0; length > 0; length-- {
		end := len(all)
		for _, s := range all[start:end] {
			for _, b := range letters {
				all = append(all, s+string(b))
			}
		}
		start = end
	}
	return all
}

// A reader knows what patterns of tokens mean.
type reader map[string]*regexp.Regexp

// learn remembers a pattern of some alternatives, which are lists of places in the tokens.
func (r reader) learn(alternatives [][]int) string {
	var patterns, expressions []string
	for _, l := range alternatives {
		p, x := "", ""
		for _, i := range l {
			p, x = p+tokens()[i][0], x+tokens()[i][1]
		}
		patterns, expressions = append(patterns, p), append(expressions, "(?:"+x+")")
	}
	p := strings.Join(patterns, "|")
	if r[p] == nil {
		r[p] = regexp.MustCompile("^(?:" + strings.Join(expressions, "|") + ")$")
	}
	return p
}

// matches reads patterns; what was not learnt is none.
func (r reader) matches(p, s string) bool { return r[p] != nil && r[p].MatchString(s) }

// any reports whether one of some patterns matches.
func (r reader) any(l []string, s string) bool {
	return slices.ContainsFunc(l, func(p string) bool { return r.matches(p, s) })
}

// refFind reads P18.2 once more, module by module.
func (r reader) refFind(c api.Config, s string) []string {
	var names []string
	for _, m := range c.Modules {
		own := !slices.Contains(c.Blocked, m.Name) && r.any(m.Aliases, s)
		extra := slices.ContainsFunc(c.Extra, func(e api.Attr) bool { return e.Value == m.Name && r.matches(e.Name, s) })
		if s != "" && (own || extra) {
			names = append(names, m.Name)
		}
	}
	slices.Sort(names)
	return names
}

// refShared reads P18.3 once more: it tries the texts, the least ones first.
func (r reader) refShared(c api.Config, a, b string, all []string) (string, bool) {
	for _, s := range all {
		has := func(name string) bool {
			return slices.ContainsFunc(c.Modules, func(m api.Module) bool { return m.Name == name && r.any(m.Aliases, s) })
		}
		if has(a) && has(b) {
			return s, true
		}
	}
	return "", false
}
