package helper_test

import (
	"slices"
	"testing"

	"coldplug/api"
	"coldplug/helper"
)

// example is the table of the chapter's examples.
func example() []api.Helper {
	return []api.Helper{{Command: "probe *", Output: "A=1;b=2;C=", Ticks: 3}, {Command: "slow", Ticks: 50}}
}

// full returns a table with as many elements as it may have.
func full() []api.Helper {
	l := make([]api.Helper, api.MaxHelpers)
	for i := range l {
		l[i] = api.Helper{Command: "run ?", Output: "A=1", Ticks: i}
	}
	return l
}

// checked checks what Check returns.
func checked(t *testing.T, what string, l []api.Helper, limit int, valid bool) {
	t.Helper()
	want := api.ErrHelperTable
	if valid {
		want = api.OK
	}
	if got := helper.Check(l, limit); got != want {
		t.Errorf("Check of %s with the limit %d: got %d, want %d", what, limit, got, want)
	}
}

// An answer is what Call returns.
type answer struct {
	output string
	ticks  int
	err    api.Errno
}

func call(l []api.Helper, limit, calls int, command string) answer {
	output, ticks, err := helper.Call(l, limit, calls, command)
	return answer{output, ticks, err}
}

// answered checks what Call returns.
func answered(t *testing.T, l []api.Helper, limit, calls int, command string, want answer) {
	t.Helper()
	if got := call(l, limit, calls, command); got != want {
		t.Errorf("Call of %q behind %d calls with the limit %d: got %+v, want %+v", command, calls, limit, got, want)
	}
}

// attrs returns the items with keys and values in turn.
func attrs(l ...string) []api.Attr {
	var items []api.Attr
	for pair := range slices.Chunk(l, 2) {
		items = append(items, api.Attr{Name: pair[0], Value: pair[1]})
	}
	return items
}

// itemsAre checks what Items returns.
func itemsAre(t *testing.T, output string, want ...string) {
	t.Helper()
	if got := helper.Items(output); !slices.Equal(got, attrs(want...)) {
		t.Errorf("Items of %q: got %q, want %q", output, got, want)
	}
}
