package evaluate_test

import (
	"strings"
	"testing"

	"coldplug/api"
	"coldplug/evaluate"
)

// expandsTo checks what a template in a rule with some matches stands for.
func expandsTo(t *testing.T, index int, matches, template, want string) {
	t.Helper()
	d := draftOf(t, index, matches+`ENV{V}="<`+template+`>"`)
	for _, a := range d.Props {
		if a.Name == "V" && a.Value != "<"+want+">" {
			t.Errorf("%q behind %q for %d: got %q, want <%s>", template, matches, index, a.Value, want)
		}
	}
	if d.Props[len(d.Props)-1].Name != "V" {
		t.Errorf("%q behind %q for %d: not made", template, matches, index)
	}
}

// Each piece of a template stands for what the chapter says, for devices of all kinds.
func TestValues(t *testing.T) {
	for template, want := range map[string][4]string{
		"$kernel":       {"pci0", "c0!d0", "c0!d0p1", "eth7"},
		"%k":            {"pci0", "c0!d0", "c0!d0p1", "eth7"},
		"$number":       {"0", "0", "1", "7"},
		"$devpath":      {"/pci0", "/pci0/c0!d0", "/pci0/c0!d0/c0!d0p1", "/usb0/eth7"},
		"$id":           {"pci0", "c0!d0", "c0!d0p1", "eth7"},
		"$driver":       {"bridge", "raid", "", ""},
		"$parent":       {"", "", "c0/d0", ""},
		"%P":            {"", "", "c0/d0", ""},
		"$name":         {"pci0", "c0!d0", "c0!d0p1", "eth7"},
		"%c":            {"", "", "", ""},
		"$attr{size}":   {"p", "d", "", ""},
		"%s{slot}":      {"", "", "", "2"},
		"$attr{model}":  {"", "m 1", "", ""},
		"$env{DEVNAME}": {"", "c0/d0", "c0/d0p1", ""},
		"%E{INTERFACE}": {"", "", "", "eth7"},
		"$$%%":          {"$%", "$%", "$%", "$%"},
	} {
		for i, index := range []int{pci, disk, part, eth} {
			expandsTo(t, index, "", template, want[i])
		}
	}
	expandsTo(t, lower, "", "$parent", "c0/d0p1")
}

// Behind the first upward match, ID, Driver and Above are those of the rule's ancestor; the others are those of the device.
func TestValuesOfTheAncestor(t *testing.T) {
	all := "$id,$driver,$attr{size},$attr{vendor},$attr{model},$kernel,$number,$devpath,$name,$parent"
	expandsTo(t, part, "", all, "c0!d0p1,,,,,c0!d0p1,1,/pci0/c0!d0/c0!d0p1,c0!d0p1,c0/d0")
	expandsTo(t, part, `SUBSYSTEMS=="block",`, all, "c0!d0p1,,,,,c0!d0p1,1,/pci0/c0!d0/c0!d0p1,c0!d0p1,c0/d0")
	expandsTo(t, part, `DRIVERS=="?*",`, all, "c0!d0,raid,d,,m 1,c0!d0p1,1,/pci0/c0!d0/c0!d0p1,c0!d0p1,c0/d0")
	expandsTo(t, part, `SUBSYSTEMS=="pci",`, all, "pci0,bridge,p,v1,,c0!d0p1,1,/pci0/c0!d0/c0!d0p1,c0!d0p1,c0/d0")
	expandsTo(t, disk, `DRIVERS=="bridge",`, all, "pci0,bridge,d,v1,m 1,c0!d0,0,/pci0/c0!d0,c0!d0,")
	expandsTo(t, eth, `KERNELS!="eth7",`, all, "usb0,hub,,,,eth7,7,/usb0/eth7,eth7,")
	expandsTo(t, eth, `KERNELS!="eth7",`, "$attr{slot}", "2")
}

// Until an upward match is reached, the rule's ancestor is the device itself; so it is at the beginning of each rule.
func TestAncestorOfEachRule(t *testing.T) {
	in := input(disk)
	in.Helpers = []api.Helper{{Command: "is c0!d0 raid ", Output: "own"}, {Command: "is pci0 bridge v1", Output: "above"}}
	command := `"is $id $driver $attr{vendor}"`
	d, err := evaluate.Draft(rulesOf(t,
		`PROGRAM==`+command+`, RESULT=="own", SUBSYSTEMS=="pci", PROGRAM==`+command+`, RESULT=="above", KERNELS=="*", DRIVERS=="*", PROGRAM==`+command+`, ENV{A}="%c $id"`,
		`ENV{B}="$id"`,
		`SUBSYSTEMS=="pci", KERNEL=="none"`,
		`ENV{C}="$id"`,
		`SUBSYSTEMS=="none"`,
		`PROGRAM==`+command+`, ENV{D}="%c $id"`,
	), in)
	if err != api.OK {
		t.Error(err)
	}
	propsAre(t, d, "A", "above pci0", "B", "c0!d0", "C", "c0!d0", "D", "own c0!d0")
}

// Values are those of the moment: an assignment sees what the ones ahead of it in its rule have done.
func TestValuesOfTheMoment(t *testing.T) {
	d := draftOf(t, eth, `NAME="$name-a", ENV{A}="$name", NAME="$name-b", ENV{B}="$env{A} $name", ENV{A}="", ENV{C}="$env{A}$env{B}", ENV{B}+="$env{B}"`, `NAME="none/", ENV{D}="$name"`)
	propsAre(t, d, "B", "eth7-a eth7-a-b eth7-a eth7-a-b", "C", "eth7-a eth7-a-b", "D", "eth7-a-b")
	if d.Name != "eth7-a-b" {
		t.Errorf("the name is %q", d.Name)
	}
}

// Values of all keys are expanded, but for PRIORITY, LABEL and GOTO, which have none.
func TestExpandedValues(t *testing.T) {
	d := draftOf(t, part, `PROGRAM=="say one"`, `TAG+="t-$kernel", SYMLINK+="by/%n by/$parent/%c", OWNER="o%n", GROUP="g$number", MODE="064%n", RUN+="run $devpath", LOAD+="m:%c", NAME="n%n", PRIORITY="12", LABEL="l"`)
	listIs(t, "tags", d.Tags, "t-c0!d0p1")
	listIs(t, "links", d.Links, "by/1", "by/c0/d0/one")
	listIs(t, "run", d.Run, "run /pci0/c0!d0/c0!d0p1")
	listIs(t, "load", d.Load, "m:one")
	if d.Owner != "o1" || d.Group != "g1" || d.Mode != 0o641 || d.Name != "n1" || d.Priority != 12 {
		t.Errorf("%+v", d)
	}
	d = draftOf(t, part, `PROGRAM=="say one"`, `SYMLINK="a b c", TAG="%c"`, `SYMLINK-="%c b", TAG-="%c", TAG+="x"`, `SYMLINK:="$kernel"`, `SYMLINK+="z"`)
	listIs(t, "tags", d.Tags, "x")
	listIs(t, "links", d.Links, "c0_d0p1")
}

// A value is cut after MaxText bytes.
func TestLongValue(t *testing.T) {
	long := strings.Repeat("x", 200)
	d := draftOf(t, disk, `ENV{X}="`+long+`"`, `RUN+="$env{X}$env{X}"`)
	listIs(t, "run", d.Run, strings.Repeat("x", 256))
}

// A value that is right only behind the expansion is made, and one that is not right is ignored.
func TestIgnoredValues(t *testing.T) {
	d := draftOf(t, part, `PROGRAM=="say more"`, `TAG+="%c", TAG+="%c{1}", OWNER="%c", MODE="%c", NAME="$devpath", ENV{DRIVER}="%c", ENV{A}="%c{9}"`)
	listIs(t, "tags", d.Tags, "more")
	propsAre(t, d)
	if d.Owner != "root" || d.Mode != 0o600 || d.Name != "" {
		t.Errorf("%+v", d)
	}
}
