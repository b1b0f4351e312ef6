package assign_test

import (
	"strings"
	"testing"

	"coldplug/api"
	"coldplug/assign"
)

// baseKeys are the keys that no assignment changes.
var baseKeys = []string{"DEVNAME", "DEVPATH", "DRIVER", "INTERFACE", "MODALIAS", "NUMBER", "SUBSYSTEM"}

// P13.2: the chapter's examples.
func TestPropertyExamples(t *testing.T) {
	d := assign.Begin(propsOf("ID", "1"))
	propsAre(t, d, apply(d, "ENV{ID}", "+=", "2"), "ID", "1 2")
	propsAre(t, d, apply(d, "ENV{DRIVER}", "=", "x"), "ID", "1")
}

// P13.2: = sets a property that is there, inserts one that is not, wherever it belongs, and removes one for the empty value.
func TestSetProperty(t *testing.T) {
	d := rich()
	propsAre(t, d, apply(d, "ENV{A}", "=", "2"), "A", "2", "DEVNAME", "sda", "ID", "x y")
	propsAre(t, d, apply(d, "ENV{ID}", "=", "x y"), "A", "1", "DEVNAME", "sda", "ID", "x y")
	propsAre(t, d, apply(d, "ENV{AA}", "=", "z"), "A", "1", "AA", "z", "DEVNAME", "sda", "ID", "x y")
	propsAre(t, d, apply(d, "ENV{Z}", "=", " "), "A", "1", "DEVNAME", "sda", "ID", "x y", "Z", " ")
	propsAre(t, d, apply(d, "ENV{A}", "=", ""), "DEVNAME", "sda", "ID", "x y")
	propsAre(t, d, apply(d, "ENV{ID}", "=", ""), "A", "1", "DEVNAME", "sda")
	propsAre(t, d, apply(d, "ENV{Z}", "=", ""), "A", "1", "DEVNAME", "sda", "ID", "x y")
	propsAre(t, api.Draft{}, apply(api.Draft{}, "ENV{B}", "=", "1", "=", "2"), "B", "2")
	propsAre(t, api.Draft{}, apply(api.Draft{}, "ENV{B}", "=", "1", "=", "", "=", ""))
}

// P13.2: += goes on behind a space, sets a property that is not there, and ignores the empty value.
func TestAddToProperty(t *testing.T) {
	d := rich()
	propsAre(t, d, apply(d, "ENV{ID}", "+=", " z"), "A", "1", "DEVNAME", "sda", "ID", "x y  z")
	propsAre(t, d, apply(d, "ENV{ID}", "+=", "x", "+=", "x"), "A", "1", "DEVNAME", "sda", "ID", "x y x x")
	propsAre(t, d, apply(d, "ENV{Z}", "+=", "z"), "A", "1", "DEVNAME", "sda", "ID", "x y", "Z", "z")
	propsAre(t, d, apply(d, "ENV{A}", "+=", ""), "A", "1", "DEVNAME", "sda", "ID", "x y")
	propsAre(t, d, apply(d, "ENV{Z}", "+=", ""), "A", "1", "DEVNAME", "sda", "ID", "x y")
}

// P13.2: base keys stay as they are, be they there or not; keys that are nearly right are others.
func TestBaseKeys(t *testing.T) {
	for _, key := range baseKeys {
		for _, d := range []api.Draft{{}, {Props: propsOf(key, "1")}} {
			for _, op := range []string{"=", "+="} {
				for _, value := range []string{"", "x", "\n"} {
					draftIs(t, key, apply(d, "ENV{"+key+"}", op, value), d)
				}
				propsAre(t, api.Draft{}, apply(api.Draft{}, "ENV{"+key+"S}", op, "x"), key+"S", "x")
			}
		}
	}
}

// P13.2: values that are no texts are ignored; of values that are too long += cuts those alone that follow an old one.
func TestValuesOfProperties(t *testing.T) {
	d := assign.Begin(propsOf("ID", "1"))
	for _, value := range []string{"\n", "a\x1f", "\x7f", "é", "a\xff", strings.Repeat("x", api.MaxText) + "\n", strings.Repeat("x", api.MaxText+1)} {
		draftIs(t, "=", apply(d, "ENV{ID}", "=", value), d)
		draftIs(t, "=", apply(d, "ENV{NEW}", "=", value), d)
		draftIs(t, "+=", apply(d, "ENV{NEW}", "+=", value), d)
	}
	for b := range 256 {
		want := "1"
		if b >= 32 && b <= 126 {
			want = "1 " + string(rune(b))
		}
		propsAre(t, d, apply(d, "ENV{ID}", "+=", string([]byte{byte(b)})), "ID", want)
	}
	long := strings.Repeat("x", api.MaxText)
	propsAre(t, d, apply(d, "ENV{ID}", "=", long), "ID", long)
	propsAre(t, d, apply(d, "ENV{NEW}", "+=", long), "ID", "1", "NEW", long)
	propsAre(t, d, apply(d, "ENV{ID}", "+=", long), "ID", "1 "+long[2:])
	propsAre(t, d, apply(d, "ENV{ID}", "+=", long[2:]), "ID", "1 "+long[2:])
	propsAre(t, d, apply(d, "ENV{ID}", "+=", long[2:]+"y"), "ID", "1 "+long[2:])
	propsAre(t, d, apply(d, "ENV{ID}", "=", long, "+=", "y"), "ID", long)
	propsAre(t, d, apply(d, "ENV{ID}", "=", long[1:], "+=", "y"), "ID", long[1:]+" ")
	// What is cut off does not count, what is left does.
	propsAre(t, d, apply(d, "ENV{ID}", "+=", long[2:]+"\n"), "ID", "1 "+long[2:])
	propsAre(t, d, apply(d, "ENV{ID}", "+=", "\n"+long), "ID", "1")
}

// P13.2: behind MaxProps properties none is inserted; those that are there can be set and removed.
func TestFullProperties(t *testing.T) {
	d := assign.Begin(fullProps())
	for _, key := range []string{"A", "K001A", "Z"} {
		for _, op := range []string{"=", "+="} {
			draftIs(t, key, apply(d, "ENV{"+key+"}", op, "x"), d)
		}
	}
	for i, a := range d.Props {
		want := copyOf(d)
		want.Props[i].Value = "w"
		draftIs(t, a.Name, apply(d, "ENV{"+a.Name+"}", "=", "w"), want)
		want.Props[i].Value = a.Value + " w"
		draftIs(t, a.Name, apply(d, "ENV{"+a.Name+"}", "+=", "w"), want)
	}
	less := apply(d, "ENV{ID}", "=", "")
	if len(less.Props) != api.MaxProps-1 {
		t.Errorf("%d properties behind a removal", len(less.Props))
	}
	draftIs(t, "inserted again", apply(less, "ENV{ID}", "=", "1", "=", "1"), d)
	if got := apply(less, "ENV{Z}", "+=", "z").Props; len(got) != api.MaxProps || got[api.MaxProps-1] != (api.Attr{Name: "Z", Value: "z"}) {
		t.Errorf("the last property is %v", got[len(got)-1])
	}
}
