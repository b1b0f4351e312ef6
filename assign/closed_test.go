package assign_test

import (
	"testing"

	"coldplug/api"
	"coldplug/assign"
)

// values are values of which at least one is right for each key, and others that are not.
func values() []string {
	return []string{"", "z9", "5", "-5", "0600", "a b", "t1", "disk/a", "pci:d1", "\n", "run a", "9999"}
}

// P13.2: := closes its key with Op 0 and an empty Value, also if the value is ignored; other ops close nothing.
func TestCloses(t *testing.T) {
	for _, x := range assignments() {
		for _, value := range values() {
			for _, before := range [][]api.Term{nil, {{Key: api.KeyEnv, Name: "B"}}} {
				d := rich()
				d.Closed = before
				want := before
				if x.Op == api.OpFinal {
					want = append(before[:len(before):len(before)], api.Term{Key: x.Key})
				}
				x.Value = "not looked at"
				got := assign.Apply(d, x, value)
				changed := got
				changed.Closed = want
				draftIs(t, "Closed", got, changed)
			}
		}
	}
}

// P13.2: := does what = does.
func TestFinalAssigns(t *testing.T) {
	for _, x := range assignments() {
		if x.Op != api.OpFinal {
			continue
		}
		for _, value := range values() {
			final := assign.Apply(rich(), x, value)
			other := x
			other.Op = api.OpAssign
			want := assign.Apply(rich(), other, value)
			want.Closed = []api.Term{{Key: x.Key}}
			draftIs(t, ":=", final, want)
		}
	}
}

// P13.2: what is closed is not changed, by whatever op; what is closed beside it does not count.
func TestClosed(t *testing.T) {
	for _, x := range assignments() {
		for _, value := range values() {
			for _, beside := range [][]api.Term{{{Key: x.Key, Name: x.Name}}, {{Key: api.KeyEnv, Name: "Z"}, {Key: x.Key, Name: x.Name, Op: 9, Value: "9"}, {}}} {
				d := rich()
				d.Closed = beside
				draftIs(t, "closed", assign.Apply(d, x, value), d)
			}
			d := rich()
			for key := range api.KeyGoto + 1 {
				if key != x.Key {
					d.Closed = append(d.Closed, api.Term{Key: key, Name: x.Name})
				}
			}
			want := assign.Apply(rich(), x, value)
			want.Closed = append(copyOf(d).Closed, want.Closed...)
			draftIs(t, "closed beside it", assign.Apply(d, x, value), want)
		}
	}
}

// P13.2: of properties one alone is closed.
func TestClosedProperties(t *testing.T) {
	d := rich()
	d.Closed = []api.Term{{Key: api.KeyEnv, Name: "ID"}, {Key: api.KeyEnv}, {Key: api.KeyEnv, Name: "NEW"}}
	for _, op := range []string{"=", "+="} {
		for _, value := range values() {
			draftIs(t, "closed", apply(apply(d, "ENV{ID}", op, value), "ENV{NEW}", op, value), d)
		}
	}
	propsAre(t, d, apply(d, "ENV{A}", "=", "2"), "A", "2", "DEVNAME", "sda", "ID", "x y")
	propsAre(t, d, apply(d, "ENV{I}", "+=", "2"), "A", "1", "DEVNAME", "sda", "I", "2", "ID", "x y")
}

// P13.2: a key is closed once.
func TestClosedOnce(t *testing.T) {
	d := apply(api.Draft{}, "RUN", ":=", "a", ":=", "b", "+=", "c")
	d = apply(d, "NAME", ":=", "", ":=", "lan0")
	d = apply(d, "SYMLINK", ":=", "x", "-=", "x", ":=", "")
	draftIs(t, "closed once", d, api.Draft{Run: []string{"a"}, Links: []string{"x"}, Closed: []api.Term{{Key: api.KeyRun}, {Key: api.KeyName}, {Key: api.KeySymlink}}})
}
