package helper_test

import (
	"fmt"
	"math"
	"math/rand"
	"slices"
	"strings"
	"testing"

	"coldplug/api"
	"coldplug/helper"
)

// The chapter's examples.
func TestCallExamples(t *testing.T) {
	answered(t, example(), 10, 0, "probe sda", answer{"A=1;b=2;C=", 3, api.OK})
	answered(t, example(), 10, 0, "slow", answer{"", 10, api.ErrHelperSlow})
	answered(t, example(), 10, 0, "none", answer{"", 0, api.ErrHelperNone})
	answered(t, example(), 10, 16, "probe x", answer{"", 0, api.ErrHelperCalls})
}

// P14.2: MaxCalls commands are answered; no answer comes ahead of the number of calls.
func TestCallCalls(t *testing.T) {
	l := append(example(), api.Helper{Command: "bad", Output: "x", Fails: true, Ticks: 2})
	for _, calls := range []int{math.MinInt, -16, -1, 0, 1, 2, 14, 15, 16, 17, 18, 32, 1000, 1<<32 + 1, math.MaxInt} {
		want := map[string]answer{
			"probe sda": {"A=1;b=2;C=", 3, api.OK},
			"slow":      {"", 10, api.ErrHelperSlow},
			"bad":       {"", 2, api.ErrHelperFails},
			"none":      {"", 0, api.ErrHelperNone},
			"\n":        {"", 0, api.ErrHelperNone},
		}
		for command, a := range want {
			if calls >= 16 {
				a = answer{"", 0, api.ErrHelperCalls}
			}
			answered(t, l, 10, calls, command, a)
			if calls < 16 {
				a = answer{"", 0, api.ErrHelperNone}
			}
			answered(t, nil, 10, calls, command, a)
		}
	}
}

// P14.2: ticks up to the limit are the element's own; more of them are the limit, also of a helper that would fail.
func TestCallTicks(t *testing.T) {
	numbers := []int{0, 1, 2, 9, 10, 11, 499, 500, 501, 999, 1000}
	for _, ticks := range numbers {
		for _, limit := range numbers[1:] {
			right := answer{"out", ticks, api.OK}
			wrong := answer{"", ticks, api.ErrHelperFails}
			if ticks > limit {
				right = answer{"", limit, api.ErrHelperSlow}
				wrong = right
			}
			answered(t, []api.Helper{{Command: "*", Output: "out", Ticks: ticks}}, limit, 3, "run", right)
			answered(t, []api.Helper{{Command: "*", Output: "out", Ticks: ticks, Fails: true}}, limit, 3, "run", wrong)
		}
	}
}

// P14.2: commands without an element, and others beside them; a command may be of any length.
func TestCallNone(t *testing.T) {
	l := []api.Helper{{Command: "a", Output: "1"}, {Command: "b?|c[de]", Output: "2"}, {Command: "x*", Output: "3", Ticks: 1}}
	for _, command := range []string{"", " ", "A", "a ", " a", "aa", "b", "bcd", "c", "cf", "b?|c[de]", "a|b", "y", " x", "x\n", "xé", "\x00", "b\x7f", "b\x1f", strings.Repeat("b", 300)} {
		answered(t, l, 10, 0, command, answer{"", 0, api.ErrHelperNone})
	}
	answered(t, l, 10, 0, "a", answer{"1", 0, api.OK})
	for _, command := range []string{"bb", "b|", "cd", "ce"} {
		answered(t, l, 10, 0, command, answer{"2", 0, api.OK})
	}
	for _, command := range []string{"x", "x a", "x" + strings.Repeat("y", 1000)} {
		answered(t, l, 10, 0, command, answer{"3", 1, api.OK})
	}
	answered(t, nil, 10, 0, "", answer{"", 0, api.ErrHelperNone})
	answered(t, []api.Helper{{}}, 10, 0, "", answer{"", 0, api.OK})
	answered(t, []api.Helper{{Command: "a|", Output: "x", Ticks: 1}}, 10, 0, "", answer{"x", 1, api.OK})
}

// P14.2: of several elements that match, the first one answers, at whatever place it is; the chapter's consequences: if it fails, the command fails.
func TestCallFirst(t *testing.T) {
	fails := api.Helper{Command: "prob? *", Output: "fails", Fails: true, Ticks: 4}
	slow := api.Helper{Command: "*", Output: "slow", Ticks: 11}
	right := api.Helper{Command: "probe [a-z]", Output: "right", Ticks: 5}
	other := api.Helper{Command: "other", Output: "other", Fails: true, Ticks: 6}
	want := map[api.Helper]answer{fails: {"", 4, api.ErrHelperFails}, slow: {"", 10, api.ErrHelperSlow}, right: {"right", 5, api.OK}}
	for first, a := range want {
		for at := range api.MaxHelpers - 2 {
			l := slices.Repeat([]api.Helper{other}, api.MaxHelpers-3)
			l = slices.Insert(l, at, first)
			for second := range want {
				answered(t, append(slices.Clone(l), second, fails), 10, 0, "probe x", a)
			}
		}
	}
}

// P14.2: an output is handed on as it is.
func TestCallOutputs(t *testing.T) {
	for _, output := range []string{"", " ", ";", "A=1;A=2;", " a  b ", "%k $env{X}", strings.Repeat("x", 256)} {
		answered(t, []api.Helper{{Command: "a", Output: output, Ticks: 1}}, 1, 15, "a", answer{output, 1, api.OK})
		answered(t, []api.Helper{{Command: "a", Output: output, Ticks: 1, Fails: true}}, 1, 15, "a", answer{"", 1, api.ErrHelperFails})
		answered(t, []api.Helper{{Command: "a", Output: output, Ticks: 2}}, 1, 15, "a", answer{"", 1, api.ErrHelperSlow})
	}
}

// R4: the table stays as it is, and so does the room behind it.
func TestCallKeeps(t *testing.T) {
	r := rand.New(rand.NewSource(14))
	for range 2000 {
		l := randomTable(r)
		room := append(make([]api.Helper, 0, len(l)+3), l...)
		for range 5 {
			call(room, 1+r.Intn(1000), r.Intn(20), randomCommand(r))
		}
		if !slices.Equal(room, l) || !slices.Equal(room[:cap(room)][len(l):], make([]api.Helper, 3)) {
			t.Fatalf("the table was changed: %+v", room[:cap(room)])
		}
	}
}

// R1, R2 and R5: tables and limits that are not valid give one answer or another, and always the same; beside an error the output is empty.
func TestCallAnyArguments(t *testing.T) {
	long := strings.Repeat("\xff[a", 1<<12)
	odd := []api.Helper{{Command: "[", Output: "x"}, {Command: long, Output: long}, {Command: "a", Output: long, Ticks: math.MinInt}, {Command: "b", Output: "\n", Ticks: math.MaxInt}, {Command: "c", Output: "x", Fails: true, Ticks: -5}, {Command: "*", Output: "x", Ticks: 2000}}
	for _, l := range [][]api.Helper{nil, odd, slices.Repeat(odd, 100), example()} {
		for _, limit := range []int{math.MinInt, -1, 0, 1, 1000, 1001, math.MaxInt} {
			for _, calls := range []int{math.MinInt, -1, 0, 15, 16, math.MaxInt} {
				for _, command := range []string{"", "a", "b", "c", "d", "[", "probe x", long} {
					got := call(l, limit, calls, command)
					answered(t, l, limit, calls, command, got)
					if got.err != api.OK && got.output != "" {
						t.Errorf("Call of %q with the limit %d: %+v", command, limit, got)
					}
				}
			}
			if helper.Check(l, limit) != helper.Check(l, limit) {
				t.Errorf("two checks with the limit %d differ", limit)
			}
		}
	}
}

// P14.2: many tables and commands against a second reading of the chapter; and its consequence: ticks are never more than the limit.
func TestRandomCalls(t *testing.T) {
	r := rand.New(rand.NewSource(15))
	seen := map[api.Errno]int{}
	for range 30000 {
		l, limit := randomTable(r), 1+r.Intn(30)
		calls, command := r.Intn(18), randomCommand(r)
		if helper.Check(l, limit) != api.OK {
			t.Fatalf("%+v is no table", l)
		}
		want := refCall(l, limit, calls, command)
		if got := call(l, limit, calls, command); got != want || got.ticks > limit {
			t.Fatalf("%+v, %d, %d, %q: got %+v, want %+v", l, limit, calls, command, got, want)
		}
		seen[want.err]++
	}
	for _, err := range []api.Errno{api.OK, api.ErrHelperCalls, api.ErrHelperNone, api.ErrHelperSlow, api.ErrHelperFails} {
		if seen[err] < 500 {
			t.Errorf("%d was seen %d times only", err, seen[err])
		}
	}
}

// P14.1: tables in which one thing or another is wrong against a second reading of the chapter.
func TestRandomChecks(t *testing.T) {
	r := rand.New(rand.NewSource(16))
	seen := map[bool]int{}
	for range 30000 {
		l, limit := randomTable(r), 1+r.Intn(api.MaxTicks)
		valid := true
		if r.Intn(8) == 0 {
			limit = pick(r, -1, 0, 1001)
			valid = false
		}
		if len(l) > 0 && r.Intn(2) == 0 {
			h := &l[r.Intn(len(l))]
			*h = pick(r, api.Helper{Command: pick(r, "[", "a[b", "[]", "\t", "ok")}, api.Helper{Output: pick(r, "\t", "\x7f", strings.Repeat("y", 200+r.Intn(100)))}, api.Helper{Ticks: r.Intn(1400) - 200})
			valid = valid && elementIsRight(*h)
		}
		checked(t, fmt.Sprintf("%+v", l), l, limit, valid)
		seen[valid]++
	}
	if seen[true] < 5000 || seen[false] < 5000 {
		t.Errorf("too few of one kind: %v", seen)
	}
}
