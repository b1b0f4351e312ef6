package device_test

import (
	"fmt"
	"slices"
	"strings"
	"testing"

	"coldplug/api"
	"coldplug/device"
)

// attrs returns a list of attributes, of names and values in turn.
func attrs(words ...string) []api.Attr {
	var l []api.Attr
	for i := 0; i < len(words); i += 2 {
		l = append(l, api.Attr{Name: words[i], Value: words[i+1]})
	}
	return l
}

// many returns a list of n attributes that ascends.
func many(n int) []api.Attr {
	var l []api.Attr
	for i := range n {
		l = append(l, api.Attr{Name: fmt.Sprintf("a%03d", i), Value: "v"})
	}
	return l
}

// plain, block, char and net are sound devices of the four kinds.
func plain() api.Device {
	return api.Device{Index: 1, Name: "pci0", Original: "pci0", Subsystem: "pci", Kind: api.KindPlain}
}

func block() api.Device {
	return api.Device{Index: 5, Parent: 1, Name: "cciss!c0d0", Original: "cciss!c0d0", Subsystem: "block",
		Driver: "cciss", Alias: "pci:v1 d2", Kind: api.KindBlock, Number: 8, Attrs: attrs("removable", "0", "size", "4 k")}
}

func char() api.Device {
	return api.Device{Index: 6, Parent: 5, Name: "tty0", Original: "tty0", Subsystem: "tty", Kind: api.KindChar, Number: 1}
}

func net() api.Device {
	return api.Device{Index: 7, Parent: 1, Name: "lan0", Original: "eth0", Subsystem: "net", Kind: api.KindNet}
}

// named returns the device with both names set.
func named(d api.Device, name string) api.Device {
	d.Name, d.Original = name, name
	return d
}

// P3.1: what a sound device may be, up to the greatest numbers and lengths.
func TestSoundDevices(t *testing.T) {
	with := func(d api.Device, do func(d *api.Device)) api.Device {
		do(&d)
		return d
	}
	long := strings.Repeat("x", api.MaxName)
	for k, d := range []api.Device{
		plain(), block(), char(), net(),
		with(block(), func(d *api.Device) { d.Index = api.MaxNumber }),
		with(block(), func(d *api.Device) { d.Parent = 0 }),
		with(block(), func(d *api.Device) { d.Parent = api.MaxNumber }),
		with(block(), func(d *api.Device) { d.Number = 1 }),
		with(block(), func(d *api.Device) { d.Number = api.MaxNumber }),
		with(char(), func(d *api.Device) { d.Number = api.MaxNumber }),
		with(block(), func(d *api.Device) { d.Driver, d.Alias = "", "" }),
		with(block(), func(d *api.Device) { d.Driver = long }),
		with(block(), func(d *api.Device) { d.Subsystem = long }),
		with(block(), func(d *api.Device) { d.Alias = strings.Repeat("~", api.MaxText) }),
		with(block(), func(d *api.Device) { d.Attrs = []api.Attr{} }),
		with(block(), func(d *api.Device) { d.Attrs = many(api.MaxAttrs) }),
		with(block(), func(d *api.Device) { d.Attrs = attrs(long, strings.Repeat(" ", api.MaxText)) }),
		with(block(), func(d *api.Device) { d.Attrs = attrs("B", "1", "a", "1", "a.", "1", "b", "1") }),
		named(block(), long),
		named(block(), "a!b!...!c"),
		named(char(), "snd!pcm"),
		named(plain(), "a!"), named(plain(), "!a"), named(plain(), "a!!b"), named(plain(), "a!..!b"),
		named(net(), strings.Repeat("x", api.MaxIface)),
		with(net(), func(d *api.Device) { d.Name = d.Original }),
	} {
		if got := device.Check(d); got != api.OK {
			t.Errorf("sound device %d: got %v, want OK", k, got)
		}
	}
}

// flaw spoils a sound device; rank is the place of its error in P3.1.
type flaw struct {
	title string
	rank  int
	do    func(d *api.Device)
}

// ranks returns the errors of P3.1 in their order.
func ranks() []api.Errno {
	return []api.Errno{api.ErrDeviceNumber, api.ErrDeviceName, api.ErrDeviceKind, api.ErrDeviceNumber,
		api.ErrDeviceLimit, api.ErrDeviceAttr, api.ErrDeviceName}
}

// commonFlaws returns flaws of devices of any kind.
func commonFlaws() []flaw {
	long := strings.Repeat("x", api.MaxName+1)
	return []flaw{
		{"index 0", 0, func(d *api.Device) { d.Index = 0 }},
		{"index -1", 0, func(d *api.Device) { d.Index = -1 }},
		{"greatest index", 0, func(d *api.Device) { d.Index = api.MaxNumber + 1 }},
		{"parent -1", 0, func(d *api.Device) { d.Parent = -1 }},
		{"greatest parent", 0, func(d *api.Device) { d.Parent = api.MaxNumber + 1 }},
		{"its own parent", 0, func(d *api.Device) { d.Parent = d.Index }},
		{"no name", 1, func(d *api.Device) { d.Name = "" }},
		{"name ..", 1, func(d *api.Device) { d.Name = ".." }},
		{"name a/b", 1, func(d *api.Device) { d.Name = "a/b" }},
		{"long name", 1, func(d *api.Device) { d.Name = long }},
		{"no original", 1, func(d *api.Device) { d.Original = "" }},
		{"original a b", 1, func(d *api.Device) { d.Original = "a b" }},
		{"no subsystem", 1, func(d *api.Device) { d.Subsystem = "" }},
		{"subsystem a/b", 1, func(d *api.Device) { d.Subsystem = "a/b" }},
		{"driver a b", 1, func(d *api.Device) { d.Driver = "a b" }},
		{"long driver", 1, func(d *api.Device) { d.Driver = long }},
		{"alias with a line end", 1, func(d *api.Device) { d.Alias = "a\n" }},
		{"long alias", 1, func(d *api.Device) { d.Alias = strings.Repeat("x", api.MaxText+1) }},
		{"kind 0", 2, func(d *api.Device) { d.Kind = 0 }},
		{"kind 5", 2, func(d *api.Device) { d.Kind = 5 }},
		{"kind -1", 2, func(d *api.Device) { d.Kind = -1 }},
		{"number -1", 3, func(d *api.Device) { d.Number = -1 }},
		{"greatest number", 3, func(d *api.Device) { d.Number = api.MaxNumber + 1 }},
		{"many attributes", 4, func(d *api.Device) { d.Attrs = many(api.MaxAttrs + 1) }},
		{"many wrong attributes", 4, func(d *api.Device) { d.Attrs = make([]api.Attr, api.MaxAttrs+1) }},
		{"descending", 5, func(d *api.Device) { d.Attrs = attrs("b", "1", "a", "1") }},
		{"descending at the end", 5, func(d *api.Device) { d.Attrs = attrs("a", "1", "b", "1", "B", "1") }},
		{"a name twice", 5, func(d *api.Device) { d.Attrs = attrs("a", "1", "a", "1") }},
		{"no attribute name", 5, func(d *api.Device) { d.Attrs = attrs("", "1") }},
		{"attribute name a/b", 5, func(d *api.Device) { d.Attrs = attrs("a", "1", "a/b", "1") }},
		{"long attribute name", 5, func(d *api.Device) { d.Attrs = attrs(long, "1") }},
		{"no value", 5, func(d *api.Device) { d.Attrs = attrs("a", "1", "b", "") }},
		{"value with a tab", 5, func(d *api.Device) { d.Attrs = attrs("a", "\t", "b", "1") }},
		{"long value", 5, func(d *api.Device) { d.Attrs = attrs("a", strings.Repeat("x", api.MaxText+1)) }},
	}
}

// nodeFlaws returns flaws of block and char devices alone.
func nodeFlaws() []flaw {
	l := []flaw{
		{"another name", 2, func(d *api.Device) { d.Name = "other" }},
		{"number 0", 3, func(d *api.Device) { d.Number = 0 }},
	}
	for _, name := range []string{"a!", "!a", "!", "a!!b", "a!.", ".!a", "a!..!b", "..!a"} {
		l = append(l, flaw{"node of " + name, 6, func(d *api.Device) { *d = named(*d, name) }})
	}
	return l
}

// netFlaws returns flaws of interfaces alone.
func netFlaws() []flaw {
	long := strings.Repeat("x", api.MaxIface+1)
	return []flaw{
		{"name a:b", 2, func(d *api.Device) { d.Name = "a:b" }},
		{"name a!b", 2, func(d *api.Device) { d.Name = "a!b" }},
		{"long name", 2, func(d *api.Device) { d.Name = long }},
		{"original a:b", 2, func(d *api.Device) { d.Original = "a:b" }},
		{"original a!b", 2, func(d *api.Device) { d.Original = "a!b" }},
		{"long original", 2, func(d *api.Device) { d.Original = long }},
		{"a number", 3, func(d *api.Device) { d.Number = 1 }},
	}
}

// plainFlaws returns flaws of plain devices alone.
func plainFlaws() []flaw {
	return []flaw{
		{"another name", 2, func(d *api.Device) { d.Name = "other" }},
		{"a number", 3, func(d *api.Device) { d.Number = 1 }},
	}
}

// P3.1: each flaw alone has its error.
func TestFlaws(t *testing.T) {
	for _, c := range []struct {
		sound api.Device
		flaws []flaw
	}{
		{plain(), plainFlaws()}, {block(), nodeFlaws()}, {char(), nodeFlaws()}, {net(), netFlaws()},
	} {
		for _, f := range append(commonFlaws(), c.flaws...) {
			d := c.sound
			f.do(&d)
			if got, want := device.Check(d), ranks()[f.rank]; got != want {
				t.Errorf("kind %d, %s: got %v, want %v", c.sound.Kind, f.title, got, want)
			}
		}
	}
}

// P3.1: of two flaws, the error that is named first is returned.
func TestOrderOfErrors(t *testing.T) {
	flaws := []flaw{
		{"index", 0, func(d *api.Device) { d.Index = 0 }},
		{"parent", 0, func(d *api.Device) { d.Parent = -1 }},
		{"subsystem", 1, func(d *api.Device) { d.Subsystem = "" }},
		{"driver", 1, func(d *api.Device) { d.Driver = "/" }},
		{"alias", 1, func(d *api.Device) { d.Alias = "\n" }},
		{"name against original", 2, func(d *api.Device) { d.Name += "x" }},
		{"number", 3, func(d *api.Device) { d.Number = 0 }},
		{"limit", 4, func(d *api.Device) { d.Attrs = append(d.Attrs, many(api.MaxAttrs)...) }},
		{"attribute", 5, func(d *api.Device) { d.Attrs = append(attrs("a b", "1"), d.Attrs...) }},
		{"order", 5, func(d *api.Device) { d.Attrs = attrs("x", "1", "a", "1") }},
		{"node", 6, func(d *api.Device) { *d = named(*d, "a!") }},
	}
	for i, first := range flaws {
		for _, second := range flaws[i:] {
			d := block()
			second.do(&d)
			first.do(&d)
			if got, want := device.Check(d), ranks()[first.rank]; got != want {
				t.Errorf("%s and %s: got %v, want %v", first.title, second.title, got, want)
			}
		}
	}
}

// P3.1: a wrong kind is told ahead of names that no kind lets be different.
func TestKindAheadOfNames(t *testing.T) {
	d := net()
	d.Kind = 9
	if got := device.Check(d); got != api.ErrDeviceKind {
		t.Errorf("interface of kind 9: got %v, want ErrDeviceKind", got)
	}
	d.Kind = api.KindPlain
	if got := device.Check(d); got != api.ErrDeviceKind {
		t.Errorf("plain device with two names: got %v, want ErrDeviceKind", got)
	}
	d.Name = "a/b"
	if got := device.Check(d); got != api.ErrDeviceName {
		t.Errorf("plain device with a wrong name: got %v, want ErrDeviceName", got)
	}
}

// P3.4: the node name.
func TestNode(t *testing.T) {
	for _, c := range []struct{ original, node string }{
		{"sda", "sda"},
		{"cciss!c0d0", "cciss/c0d0"},
		{"a!b!c", "a/b/c"},
		{"a!", "a/"},
		{"!!", "//"},
		{"", ""},
	} {
		for kind := -1; kind <= 5; kind++ {
			want, wantOK := "", false
			if kind == api.KindBlock || kind == api.KindChar {
				want, wantOK = c.node, true
			}
			got, ok := device.Node(api.Device{Name: "other", Original: c.original, Kind: kind})
			if got != want || ok != wantOK {
				t.Errorf("Node of %q, kind %d: got %q, %v, want %q, %v", c.original, kind, got, ok, want, wantOK)
			}
		}
	}
}

// P3.4: devices are the same if all fields are equal, of which each one counts.
func TestSame(t *testing.T) {
	for k, do := range []func(d *api.Device){
		func(d *api.Device) { d.Index++ },
		func(d *api.Device) { d.Parent++ },
		func(d *api.Device) { d.Name += "x" },
		func(d *api.Device) { d.Original += "x" },
		func(d *api.Device) { d.Subsystem += "x" },
		func(d *api.Device) { d.Driver = "" },
		func(d *api.Device) { d.Alias = "" },
		func(d *api.Device) { d.Kind = api.KindChar },
		func(d *api.Device) { d.Number++ },
		func(d *api.Device) { d.Attrs = d.Attrs[:1] },
		func(d *api.Device) { d.Attrs = nil },
		func(d *api.Device) { d.Attrs = append(slices.Clone(d.Attrs), api.Attr{}) },
		func(d *api.Device) { d.Attrs = attrs("removable", "0", "size", "5 k") },
		func(d *api.Device) { d.Attrs = attrs("removable", "0", "sizes", "4 k") },
		func(d *api.Device) { d.Attrs = attrs("size", "4 k", "removable", "0") },
	} {
		a, b := block(), block()
		do(&b)
		if device.Same(a, b) || device.Same(b, a) {
			t.Errorf("change %d: the devices are the same", k)
		}
		if !device.Same(a, block()) || !device.Same(b, b) {
			t.Errorf("change %d: equal devices are not the same", k)
		}
	}
	d := plain()
	d.Attrs = []api.Attr{}
	if !device.Same(d, plain()) || !device.Same(plain(), d) {
		t.Errorf("nil and empty lists are not the same")
	}
}
