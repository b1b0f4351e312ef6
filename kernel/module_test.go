package kernel_test

import (
	"fmt"
	"slices"
	"testing"

	"coldplug/api"
)

// P5.2: the chapter's example.
func TestExample(t *testing.T) {
	k := begin(t, api.Module{Name: "hid", Aliases: []string{"usb:*"}})
	do(t, k, addOp("", plain("usb0", "")), addOp("/usb0", plain("kbd", "usb:k")))
	emits(t, k, 0, "1 add 1 /usb0", "2 add 2 /usb0/kbd")
	do(t, k, loadOp("hid"))
	emits(t, k, 2, "3 bind 2 /usb0/kbd")
	do(t, k, addOp("/usb0", plain("mouse", "usb:m")))
	emits(t, k, 3, "4 add 3 /usb0/mouse", "5 bind 3 /usb0/mouse")
	do(t, k, unloadOp("hid"))
	emits(t, k, 5, "6 unbind 2 /usb0/kbd", "7 unbind 3 /usb0/mouse")
	do(t, k, removeOp("/usb0"))
	emits(t, k, 7, "8 remove 3 /usb0/mouse", "9 remove 2 /usb0/kbd", "10 remove 1 /usb0")
}

// P5.2: a module matches with any of its aliases, but no device without an alias.
func TestMatches(t *testing.T) {
	for _, c := range []struct {
		aliases []string
		alias   string
		want    bool
	}{
		{nil, "x", false},
		{[]string{"x"}, "x", true},
		{[]string{"x"}, "y", false},
		{[]string{"a", "b", "x?"}, "xy", true},
		{[]string{"a*", "b*"}, "b", true},
		{[]string{"x"}, "xx", false},
		{[]string{"a|b"}, "b", true},
		{[]string{"a|b"}, "a|b", false},
		{[]string{"a [!b]"}, "a c", true},
		{[]string{""}, "x", false},
		{[]string{"", "*", "|"}, "", false},
		{[]string{"*"}, "x", true},
	} {
		m := api.Module{Name: "m", Aliases: c.aliases}
		early, late := begin(t, m), begin(t, m)
		do(t, early, loadOp("m"), addOp("", plain("d", c.alias)))
		do(t, late, addOp("", plain("d", c.alias)), loadOp("m"))
		want := []string{"1 add 1 /d"}
		driver := ""
		if c.want {
			want, driver = append(want, "2 bind 1 /d"), "m"
		}
		emits(t, early, 0, want...)
		emits(t, late, 0, want...)
		if got := []string{drivers(early)[0], drivers(late)[0]}; got[0] != driver || got[1] != driver {
			t.Errorf("%q, %q: the drivers are %q", c.aliases, c.alias, got)
		}
	}
}

// P5.2, OpAdd: of the loaded modules that match, the first one in the order of loading drives the device.
func TestAddBinds(t *testing.T) {
	any := []string{"*"}
	k := begin(t, api.Module{Name: "a", Aliases: any}, api.Module{Name: "b", Aliases: any}, api.Module{Name: "c", Aliases: []string{"no"}}, api.Module{Name: "d", Aliases: any})
	for i, step := range []struct {
		op     api.Op
		driver string
	}{
		{loadOp("c"), ""},
		{loadOp("b"), "b"},
		{loadOp("a"), "b"},
		{loadOp("d"), "b"},
		{unloadOp("b"), "a"},
		{loadOp("b"), "a"},
		{unloadOp("a"), "d"},
		{unloadOp("d"), "b"},
		{unloadOp("b"), ""},
	} {
		do(t, k, step.op)
		last := k.Last()
		do(t, k, addOp("", plain("x", "x")))
		want := []string{fmt.Sprint(last+1, " add ", i+1, " /x")}
		if step.driver != "" {
			want = append(want, fmt.Sprint(last+2, " bind ", i+1, " /x"))
		}
		emits(t, k, last, want...)
		if got := drivers(k)[0]; got != step.driver {
			t.Errorf("behind %+v: the driver is %q, want %q", step.op, got, step.driver)
		}
		do(t, k, removeOp("/x"))
	}
}

// P5.2, OpLoad: what has a driver keeps it; the others come in tree order, whatever their Indexes are.
func TestLoad(t *testing.T) {
	k := begin(t, api.Module{Name: "m", Aliases: []string{"m*"}}, api.Module{Name: "all", Aliases: []string{"*"}})
	eth := iface("eth0")
	eth.Alias = "m"
	do(t, k, addOp("", plain("z", "m1")), addOp("", plain("b", "m2")), addOp("", plain("a", "")), addOp("/a", eth), addOp("/a", plain("x", "n")),
		addOp("/a/eth0", plain("y", "m3")), renameOp("/a/eth0", "lan0"), bindOp("/b", "any"))
	do(t, k, loadOp("m"))
	emits(t, k, 8, "9 bind 4 /a/lan0", "10 bind 6 /a/lan0/y", "11 bind 1 /z")
	do(t, k, unbindOp("/z"), loadOp("all"))
	emits(t, k, 11, "12 unbind 1 /z", "13 bind 5 /a/x", "14 bind 1 /z")
	if got := drivers(k); !slices.Equal(got, []string{"", "m", "m", "all", "any", "all"}) {
		t.Errorf("the drivers are %q", got)
	}
	if got := k.Loaded(); !slices.Equal(got, []string{"m", "all"}) {
		t.Errorf("loaded: %q", got)
	}
}

// P5.2, OpLoad and OpUnload: all errors.
func TestModuleErrors(t *testing.T) {
	k := begin(t, api.Module{Name: "a"}, api.Module{Name: "b"}, api.Module{Name: "ab", Needs: []string{"a", "b"}, Pre: []string{"none"}, Post: []string{"none"}},
		api.Module{Name: "bad", Fails: true}, api.Module{Name: "lost", Needs: []string{"a", "none"}}, api.Module{Name: "self", Needs: []string{"self"}},
		api.Module{Name: "soft", Pre: []string{"a"}, Post: []string{"b"}}, api.Module{Name: "worse", Needs: []string{"bad"}})
	for _, name := range []string{"", "none", "/", "A"} {
		refused(t, k, loadOp(name), api.ErrKernelNone)
		refused(t, k, unloadOp(name), api.ErrKernelNone)
	}
	for _, name := range []string{"ab", "bad", "lost", "self", "worse"} {
		refused(t, k, loadOp(name), api.ErrKernelModule)
		refused(t, k, unloadOp(name), api.ErrKernelModule)
	}
	do(t, k, loadOp("a"))
	for _, name := range []string{"a", "ab", "lost"} {
		refused(t, k, loadOp(name), api.ErrKernelModule)
	}
	do(t, k, unloadOp("a"), loadOp("b"))
	refused(t, k, loadOp("ab"), api.ErrKernelModule)
	do(t, k, loadOp("a"), loadOp("ab"), loadOp("soft"))
	for _, name := range []string{"a", "b", "bad"} {
		refused(t, k, unloadOp(name), api.ErrKernelModule)
	}
	do(t, k, unloadOp("ab"), unloadOp("b"), unloadOp("a"), unloadOp("soft"))
	refused(t, k, unloadOp("a"), api.ErrKernelModule)
	if got := k.Last(); got != 0 {
		t.Errorf("%d events", got)
	}
}

// P5.2, OpUnload: what the module drives is unbound, whether or not it matches, and goes to no other one.
func TestUnload(t *testing.T) {
	k := begin(t, api.Module{Name: "m", Aliases: []string{"m"}}, api.Module{Name: "all", Aliases: []string{"*"}})
	do(t, k, loadOp("m"), addOp("", plain("c", "m")), loadOp("all"), addOp("", plain("b", "b")), addOp("/b", plain("x", "m")), addOp("", plain("a", "")),
		bindOp("/a", "m"), addOp("", iface("d")), renameOp("/d", "e"), bindOp("/d", "m"))
	last := k.Last()
	do(t, k, unloadOp("m"))
	emits(t, k, last, fmt.Sprint(last+1, " unbind 4 /a"), fmt.Sprint(last+2, " unbind 3 /b/x"), fmt.Sprint(last+3, " unbind 1 /c"), fmt.Sprint(last+4, " unbind 5 /e"))
	if got := drivers(k); !slices.Equal(got, []string{"", "all", "", "", ""}) {
		t.Errorf("the drivers are %q", got)
	}
	do(t, k, loadOp("m"))
	if got := k.Loaded(); !slices.Equal(got, []string{"all", "m"}) {
		t.Errorf("loaded: %q", got)
	}
}

// P5.2, P5.3: all modules can be loaded, in any order, and unloaded.
func TestManyModules(t *testing.T) {
	names := some(api.MaxModules)
	k := begin(t, called(names...)...)
	slices.Reverse(names)
	for _, n := range names {
		do(t, k, loadOp(n))
	}
	if got := k.Loaded(); !slices.Equal(got, names) {
		t.Errorf("loaded: %q", got)
	}
	for len(names) > 0 {
		at := len(names) / 2
		do(t, k, unloadOp(names[at]))
		names = slices.Delete(names, at, at+1)
		if got := k.Loaded(); !slices.Equal(got, names) {
			t.Errorf("loaded: %q, want %q", got, names)
		}
	}
}
