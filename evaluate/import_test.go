package evaluate_test

import (
	"slices"
	"strconv"
	"testing"

	"coldplug/api"
	"coldplug/evaluate"
)

// IMPORT{parent}: the properties of the parent's record whose names the glob matches are imported, but for base keys; whichever op it has.
func TestImportParent(t *testing.T) {
	for glob, want := range map[string][]string{
		"*":             {"ID_A", "1", "ID_B", "2 3", "X", "x"},
		"ID_*":          {"ID_A", "1", "ID_B", "2 3"},
		"ID_[!A]|X":     {"ID_B", "2 3", "X", "x"},
		"X":             {"X", "x"},
		"DRIVER|DEV*|?": {"X", "x"},
		"1|x|2 3":       nil,
		"":              nil,
		"none":          nil,
	} {
		for _, index := range []int{disk, part, lower, eth} {
			for op, held := range map[string]bool{"==": true, "!=": false} {
				line := `IMPORT{parent}` + op + `"` + glob + `"`
				holds(t, held, index, line)
				d := draftOf(t, index, line, `PROGRAM=="say one"`)
				propsAre(t, d, want...)
				ranAre(t, d, 1, 1, "one")
				listIs(t, "tags", d.Tags)
				listIs(t, "links", d.Links)
			}
		}
	}
}

// IMPORT{parent}: base properties stay as they are.
func TestImportParentBase(t *testing.T) {
	want := draftOf(t, disk)
	sameDraft(t, "base properties", draftOf(t, disk, `IMPORT{parent}=="DEVNAME|DRIVER"`), want)
}

// IMPORT{parent} of a device without a parent: nothing is imported, == does not hold and != does, whatever the record is.
func TestImportNoParent(t *testing.T) {
	for _, index := range []int{pci, hub} {
		holds(t, false, index, `IMPORT{parent}=="*"`)
		holds(t, true, index, `IMPORT{parent}!="*"`)
		propsAre(t, draftOf(t, index, `IMPORT{parent}=="*"`, `IMPORT{parent}!="*"`))
	}
}

// IMPORT{parent} holds for a device with a parent also if its record is the zero record.
func TestImportZeroParent(t *testing.T) {
	in := input(disk)
	in.Parent = api.Record{}
	if got := heldOf(t, in, `IMPORT{parent}=="*"`, `IMPORT{parent}!="*"`, `IMPORT{parent}=="none"`); !slices.Equal(got, []int{0, 2}) {
		t.Errorf("%v held", got)
	}
}

// IMPORT{parent}: the glob is no template.
func TestImportParentGlob(t *testing.T) {
	propsAre(t, draftOf(t, disk, `ENV{P}="X"`, `IMPORT{parent}=="$env{P}"`, `IMPORT{parent}=="%k|ID_B"`), "ID_B", "2 3", "P", "X")
}

// IMPORT{parent} imports no more properties than there may be, in the order of their names.
func TestImportParentFull(t *testing.T) {
	in := input(pci)
	in.Index, in.Parent.Props = lower, nil
	for i := range 90 {
		in.Parent.Props = append(in.Parent.Props, api.Attr{Name: "K" + strconv.Itoa(100+i), Value: "v"})
	}
	d, err := evaluate.Draft(rulesOf(t, `ENV{Z}="1"`, `IMPORT{parent}=="K*"`, `ENV{Y}="1"`), in)
	if err != api.OK || len(d.Props) != api.MaxProps {
		t.Fatalf("error %d, %d properties", err, len(d.Props))
	}
	// DEVPATH and SUBSYSTEM, Z, and 61 others: the last of them is K160.
	if d.Props[61] != (api.Attr{Name: "K160", Value: "v"}) || d.Props[63].Name != "Z" {
		t.Errorf("the last properties are %+v", d.Props[60:])
	}
}

// IMPORT{builtin}: what the builtin finds is imported; == holds if it finds something and != if not.
func TestImportBuiltin(t *testing.T) {
	for _, x := range []struct {
		index int
		name  string
		want  []string
	}{
		{disk, "path", []string{"ID_PATH", "pci:pci0-block:c0!d0", "ID_PATH_TAG", "pci_pci0_block_c0_d0"}},
		{pci, "path", []string{"ID_PATH", "pci:pci0", "ID_PATH_TAG", "pci_pci0"}},
		{lower, "path", []string{"ID_PATH", "pci:pci0-block:c0!d0-block:c0!d0p1-virtual:md", "ID_PATH_TAG", "pci_pci0_block_c0_d0_block_c0_d0p1_virtual_md"}},
		{part, "content", []string{"ID_FS_LABEL", "root", "ID_FS_USAGE", "filesystem", "ID_FS_UUID", "u1"}},
		{disk, "content", []string{"ID_FS_USAGE", "table", "ID_FS_UUID", "t"}},
		{pci, "content", nil},
		{eth, "content", nil},
		{eth, "net", []string{"ID_NET_NAME_MAC", "enx00aa", "ID_NET_NAME_SLOT", "ens2"}},
		{disk, "net", nil},
		{hub, "net", nil},
	} {
		for op, want := range map[string]bool{"==": x.want != nil, "!=": x.want == nil} {
			line := `IMPORT{builtin}` + op + `"` + x.name + `"`
			holds(t, want, x.index, line)
			d := draftOf(t, x.index, line)
			propsAre(t, d, x.want...)
			ranAre(t, d, 0, 0, "")
		}
	}
}

// IMPORT changes properties that are there, and the closed ones, too.
func TestImportReplaces(t *testing.T) {
	propsAre(t, draftOf(t, part, `ENV{A}="9", ENV{B}="8", ENV{ID_FS_UUID}="7", ENV{ID_A}="6"`, `IMPORT{program}=="items"`, `IMPORT{builtin}=="content"`, `IMPORT{parent}=="ID_*"`, `ENV{B}=""`),
		"A", "2", "ID_A", "1", "ID_B", "2 3", "ID_FS_LABEL", "root", "ID_FS_USAGE", "filesystem", "ID_FS_UUID", "u1")
}
