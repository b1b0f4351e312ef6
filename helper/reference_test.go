package helper_test

import (
	"math/rand"
	"regexp"

	"coldplug/api"
	"coldplug/glob"
)

// What the chapter says of texts and items, as patterns.
var (
	texts = regexp.MustCompile(`^[ -~]{0,256}$`)
	items = regexp.MustCompile(`(?s)^([A-Z][A-Z0-9_]{0,31})=(.+)$`)
)

// elementIsRight reads what the chapter says of an element once more.
func elementIsRight(h api.Helper) bool {
	return glob.Check(h.Command) == api.OK && texts.MatchString(h.Output) && 0 <= h.Ticks && h.Ticks <= 1000
}

// refCall reads P14.2 once more, from the last error to the first one.
func refCall(l []api.Helper, limit, calls int, command string) answer {
	got := answer{"", 0, api.ErrHelperNone}
	for i := len(l) - 1; i >= 0; i-- {
		if !glob.Match(l[i].Command, command) {
			continue
		}
		got = answer{l[i].Output, l[i].Ticks, api.OK}
		if l[i].Fails {
			got = answer{"", l[i].Ticks, api.ErrHelperFails}
		}
		if l[i].Ticks > limit {
			got = answer{"", limit, api.ErrHelperSlow}
		}
	}
	if calls >= 16 {
		got = answer{"", 0, api.ErrHelperCalls}
	}
	return got
}

// refItems reads P14.3 once more, byte by byte.
func refItems(output string) []api.Attr {
	var l []api.Attr
	item := ""
	for i := range len(output) + 1 {
		if i < len(output) && output[i] != ';' {
			item += output[i : i+1]
			continue
		}
		if m := items.FindStringSubmatch(item); m != nil {
			l = append(l, api.Attr{Name: m[1], Value: m[2]})
		}
		item = ""
	}
	return l
}

// pick returns one of some values.
func pick[T any](r *rand.Rand, l ...T) T { return l[r.Intn(len(l))] }

// randomCommand returns one of few commands, one of which is no text.
func randomCommand(r *rand.Rand) string {
	return pick(r, "a", "b", "ab", "abc", "b c", "", "a\n") + pick(r, "", "", " 1", " 2")
}

// randomTable returns a valid table whose elements often match the same commands.
func randomTable(r *rand.Rand) []api.Helper {
	l := make([]api.Helper, r.Intn(6))
	for i := range l {
		l[i] = api.Helper{
			Command: pick(r, "a", "b", "a*", "*b*", "[!a]*", "a|b", "* 1", "?", "", "ab?*", "zz"),
			Output:  pick(r, "", "x", "A=1;B=2", "ready"),
			Fails:   r.Intn(3) == 0,
			Ticks:   r.Intn(40),
		}
	}
	return l
}
