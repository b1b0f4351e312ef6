package assign_test

import (
	"testing"

	"coldplug/api"
	"coldplug/assign"
)

// P13.1: the properties are those that are given, owner, group and mode those of the document, and all else is zero.
func TestBegin(t *testing.T) {
	for _, props := range [][]api.Attr{nil, {}, propsOf("A", "1"), propsOf("DEVPATH", "/a", "SUBSYSTEM", "s"), fullProps()} {
		draftIs(t, "Begin", assign.Begin(props), api.Draft{Props: props, Owner: "root", Group: "root", Mode: 384})
	}
}

// P13.1: the draft keeps its properties when those that were given change.
func TestBeginCopies(t *testing.T) {
	room := append(make([]api.Attr, 0, 9), propsOf("A", "1", "B", "2")...)
	d := assign.Begin(room)
	room[0].Value = "changed"
	propsAre(t, d, d, "A", "1", "B", "2")
	d.Props[1].Value = "changed"
	d.Props = append(d.Props, api.Attr{Name: "C", Value: "3"})
	if room[1].Value != "2" || room[:3][2] != (api.Attr{}) {
		t.Errorf("Begin keeps its argument: %v", room[:3])
	}
}
