package helper_test

import (
	"fmt"
	"iter"
	"math"
	"slices"
	"strings"
	"testing"

	"coldplug/api"
	"coldplug/glob"
)

// P14.1: a limit is from 1 to 1000, whatever the table is.
func TestCheckLimits(t *testing.T) {
	for _, limit := range []int{math.MinInt, -1000, -1, 0, 1, 2, 50, 999, 1000, 1001, 1 << 32, 1<<32 + 1, math.MaxInt} {
		valid := limit >= 1 && limit <= 1000
		checked(t, "nil", nil, limit, valid)
		checked(t, "no element", []api.Helper{}, limit, valid)
		checked(t, "the example", example(), limit, valid)
		checked(t, "a full table", full(), limit, valid)
		checked(t, "a wrong table", []api.Helper{{Ticks: -1}}, limit, false)
	}
}

// P14.1: a table has at most 64 elements.
func TestCheckLengths(t *testing.T) {
	for _, n := range []int{0, 1, 2, 63, 64, 65, 66, 128, 1000} {
		checked(t, fmt.Sprint(n, " elements"), make([]api.Helper, n), 1, n <= 64)
	}
}

// rightElements are elements that a table may have.
func rightElements() []api.Helper {
	long := strings.Repeat("x", 255)
	return []api.Helper{
		{},
		{Command: "probe *|a[!b]?", Output: "A=1;;=", Fails: true, Ticks: 7},
		{Fails: true},
		{Command: "|"},
		{Command: long + "x"},
		{Output: long + "x"},
		{Output: "[", Ticks: 1},
		{Ticks: 1},
		{Ticks: 999},
		{Ticks: 1000},
		{Ticks: 1000, Fails: true},
		{Command: "a|b|a", Output: "a|b"},
	}
}

// wrongElements are elements that no table has.
func wrongElements() []api.Helper {
	long := strings.Repeat("x", 255)
	return []api.Helper{
		{Command: long + "xx"},
		{Command: long + "|" + long},
		{Command: "["},
		{Command: "a|[]"},
		{Command: "[b-a]"},
		{Command: "[!]"},
		{Command: "a\n"},
		{Command: "é"},
		{Output: long + "xx"},
		{Output: "A=1\n"},
		{Output: "é"},
		{Ticks: 1001},
		{Ticks: 1001, Fails: true},
		{Ticks: -1},
		{Ticks: -1, Fails: true},
		{Ticks: math.MinInt},
		{Ticks: math.MaxInt},
		{Ticks: 1 << 32},
		{Command: "[", Output: "\n"},
		{Command: "a", Output: "\x00"},
	}
}

// elements are the right ones and the wrong ones, and which of them are right.
func elements() iter.Seq2[api.Helper, bool] {
	return func(yield func(api.Helper, bool) bool) {
		right := rightElements()
		for i, h := range append(right, wrongElements()...) {
			if !yield(h, i < len(right)) {
				return
			}
		}
	}
}

// P14.1: each element counts, wherever it stands; its ticks may be more than the limit.
func TestCheckElements(t *testing.T) {
	for h, valid := range elements() {
		for _, limit := range []int{1, 10, 1000} {
			checked(t, fmt.Sprintf("%+v", h), []api.Helper{h}, limit, valid)
			for _, at := range []int{0, 1, 31, 62, 63} {
				l := full()
				l[at] = h
				checked(t, fmt.Sprintf("%+v at %d", h, at), l, limit, valid)
			}
		}
	}
}

// P14.1: a command is a pattern and an output a text, byte by byte.
func TestCheckBytes(t *testing.T) {
	for b := range 256 {
		s := string([]byte{byte(b)})
		printable := b >= 32 && b <= 126
		for _, text := range []string{s, "a" + s, s + "a", "a=" + s + ";"} {
			checked(t, fmt.Sprintf("the output %q", text), []api.Helper{{Output: text}}, 1, printable)
			checked(t, fmt.Sprintf("the command %q", text), []api.Helper{{Command: text}}, 1, printable && b != '[')
		}
		checked(t, fmt.Sprintf("the set [%q]", s), []api.Helper{{Command: "[" + s + "]"}}, 1, glob.Check("["+s+"]") == api.OK)
	}
}

// R4: the table stays as it is, and so does the room behind it.
func TestCheckKeeps(t *testing.T) {
	for h, valid := range elements() {
		room := append(full()[:40], h)
		before := slices.Clone(room[:cap(room)])
		checked(t, "a table with room", room, 0, false)
		checked(t, "a table with room", room, 9, valid)
		if !slices.Equal(room[:cap(room)], before) {
			t.Errorf("%+v: the table was changed", h)
		}
	}
}
