package alias_test

import (
	"slices"
	"testing"

	"coldplug/alias"
	"coldplug/api"
)

// module returns a module with alias patterns.
func module(name string, aliases ...string) api.Module {
	return api.Module{Name: name, Aliases: aliases}
}

// config returns a configuration with modules alone.
func config(modules ...api.Module) api.Config { return api.Config{Modules: modules} }

// extras returns elements of Extra with patterns and modules in turn.
func extras(l ...string) []api.Attr {
	var list []api.Attr
	for pair := range slices.Chunk(l, 2) {
		list = append(list, api.Attr{Name: pair[0], Value: pair[1]})
	}
	return list
}

// example is the chapter's example.
func example() api.Config {
	c := config(module("a", "usb:v1*"), module("b", "usb:*"), module("c"))
	c.Blocked, c.Extra = []string{"b"}, extras("pci:*", "c")
	return c
}

// checked checks what Check returns.
func checked(t *testing.T, title string, c api.Config, want api.Errno) {
	t.Helper()
	if got := alias.Check(c); got != want {
		t.Errorf("Check, %s: got %d, want %d", title, got, want)
	}
}

// foundAre checks the modules that a configuration and its index find by an alias.
func foundAre(t *testing.T, c api.Config, s string, want ...string) {
	t.Helper()
	if got := alias.Find(c, s); !slices.Equal(got, want) {
		t.Errorf("Find of %.300q with %+.500v: got %q, want %q", s, c, got, want)
	}
	if got := alias.New(c).Find(s); !slices.Equal(got, want) {
		t.Errorf("the index of %+.500v, asked for %.300q: got %q, want %q", c, s, got, want)
	}
}

// sharedIs checks the least text of two modules, in both orders.
func sharedIs(t *testing.T, c api.Config, a, b, want string, ok bool) {
	t.Helper()
	for _, l := range [][2]string{{a, b}, {b, a}} {
		if got, found := alias.Shared(c, l[0], l[1]); got != want || found != ok {
			t.Errorf("Shared of %q with %+.500v: got %q and %v, want %q and %v", l, c, got, found, want, ok)
		}
	}
}

// leastIs checks the least text of two lists of alias patterns.
func leastIs(t *testing.T, a, b []string, want string, ok bool) {
	t.Helper()
	sharedIs(t, config(module("x", "*"), module("a", a...), module("b", b...)), "a", "b", want, ok)
}

// roomy returns a list with equal elements and room behind its end that is filled with one of them.
func roomy[T any](l []T, behind T) []T {
	n := len(l)
	return append(slices.Clone(l), behind, behind)[:n]
}

// spoil changes all of a list, and the room behind it.
func spoil[T any](l []T, with T) {
	l = l[:cap(l)]
	for i := range l {
		l[i] = with
	}
}
