package assign_test

import (
	"slices"
	"strings"
	"testing"

	"coldplug/api"
	"coldplug/assign"
)

// P13.3: the elements are set in order, and those without a key or a value are left out.
func TestImport(t *testing.T) {
	d := rich()
	propsAre(t, d, assign.Import(d, nil), "A", "1", "DEVNAME", "sda", "ID", "x y")
	propsAre(t, d, assign.Import(d, propsOf("Z", "3", "A", "2", "B", " ", "Z", "4")), "A", "2", "B", " ", "DEVNAME", "sda", "ID", "x y", "Z", "4")
	propsAre(t, d, assign.Import(d, propsOf("A", "", "ID", "", "NEW", "")), "A", "1", "DEVNAME", "sda", "ID", "x y")
	for _, key := range []string{"", "a", "1", "_", "A b", "A-", "A{", "é", strings.Repeat("K", api.MaxName+1)} {
		draftIs(t, key, assign.Import(d, propsOf(key, "1")), d)
	}
	longest := strings.Repeat("K", api.MaxName)
	propsAre(t, api.Draft{}, assign.Import(api.Draft{}, propsOf("A_9", "1", longest, "2", "a", "3")), "A_9", "1", longest, "2")
}

// P13.3: base keys are left alone.
func TestImportBaseKeys(t *testing.T) {
	for _, key := range baseKeys {
		for _, d := range []api.Draft{{}, {Props: propsOf(key, "1")}} {
			draftIs(t, key, assign.Import(d, propsOf(key, "2", key, "")), d)
		}
	}
}

// P13.3: values that are no texts are ignored, and none is cut.
func TestImportValues(t *testing.T) {
	d := assign.Begin(propsOf("ID", "1"))
	long := strings.Repeat("x", api.MaxText)
	for _, value := range []string{"\n", "é", "a\x7f", long + "x"} {
		draftIs(t, value, assign.Import(d, propsOf("ID", value, "NEW", value)), d)
	}
	propsAre(t, d, assign.Import(d, propsOf("ID", long)), "ID", long)
}

// P13.3: what is closed is imported nevertheless, and stays closed.
func TestImportClosed(t *testing.T) {
	d := rich()
	d.Closed = []api.Term{{Key: api.KeyEnv, Name: "ID"}, {Key: api.KeyEnv, Name: "NEW"}, {Key: api.KeyEnv}}
	propsAre(t, d, assign.Import(d, propsOf("ID", "3", "NEW", "4")), "A", "1", "DEVNAME", "sda", "ID", "3", "NEW", "4")
}

// P13.3: behind MaxProps properties none is inserted, while others are set.
func TestImportFull(t *testing.T) {
	d := assign.Begin(fullProps())
	want := copyOf(d)
	want.Props[0].Value = "2"
	draftIs(t, "full", assign.Import(d, propsOf("A", "1", "ID", "2", "Z", "3")), want)
	less := assign.Begin(fullProps()[1:])
	want = copyOf(less)
	want.Props = slices.Insert(want.Props, 0, api.Attr{Name: "A", Value: "1"})
	draftIs(t, "nearly full", assign.Import(less, propsOf("A", "1", "B", "2", "A", "1")), want)
}

// P13.3: Import does what assignments to ENV do, one after the other.
func TestImportAsAssignments(t *testing.T) {
	l := propsOf("B", "1", "DRIVER", "x", "A", "\n", "B", "2", "C", "x y", "ID", strings.Repeat("y", 300))
	want := rich()
	for _, a := range l {
		want = apply(want, "ENV{"+a.Name+"}", "=", a.Value)
	}
	draftIs(t, "Import", assign.Import(rich(), l), want)
}
