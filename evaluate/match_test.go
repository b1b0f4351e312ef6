package evaluate_test

import "testing"

// Static matches are looked at on the device itself.
func TestStaticMatches(t *testing.T) {
	for line, want := range map[string]bool{
		`KERNEL=="c0!d0"`:                     true,
		`KERNEL!="c0!d0"`:                     false,
		`KERNEL=="c0/d0"`:                     false,
		`SUBSYSTEM=="block|net"`:              true,
		`SUBSYSTEM=="pci"`:                    false,
		`DRIVER=="raid"`:                      true,
		`DRIVER=="bridge"`:                    false,
		`ATTR{size}=="d"`:                     true,
		`ATTR{size}=="p"`:                     false,
		`ATTR{vendor}==""`:                    true,
		`ATTR{vendor}!="v1"`:                  true,
		`SUBSYSTEMS=="pci", DRIVER=="raid"`:   true,
		`SUBSYSTEMS=="pci", DRIVER=="bridge"`: false,
		`SUBSYSTEMS=="pci", ATTR{size}=="d"`:  true,
	} {
		holds(t, want, disk, line)
	}
	holds(t, true, eth, `KERNEL=="eth7"`)
	holds(t, false, eth, `KERNEL=="lan0"`)
}

// ACTION, ENV, TAG and RESULT are looked at in the action and the draft, as it is when the rule is read.
func TestDraftMatches(t *testing.T) {
	for line, want := range map[string]bool{
		`ACTION=="add|change"`:      true,
		`ACTION!="add"`:             false,
		`ENV{DEVNAME}=="c0/d0"`:     true,
		`ENV{NUMBER}!="9"`:          false,
		`ENV{NONE}==""`:             true,
		`TAG=="*"`:                  false,
		`TAG!="*"`:                  true,
		`RESULT==""`:                true,
		`RESULT!="?*"`:              true,
		`ENV{A}="1", ENV{A}=="1"`:   false,
		`ENV{A}=="", ENV{A}="1"`:    true,
		`TAG+="t", TAG=="t"`:        false,
		`PRIORITY="4", RESULT==""`:  true,
		`LABEL="a", ACTION=="none"`: false,
	} {
		holds(t, want, disk, line)
	}
	heldAre(t, disk, []string{`ENV{A}="1", TAG+="t"`, `ENV{A}=="1"`, `TAG=="t"`, `ENV{A}="", TAG-="t"`, `ENV{A}=="1"`, `TAG=="t"`, `ENV{A}=="", TAG!="t"`}, 0, 1, 2, 3, 6)
	heldAre(t, disk, []string{`RESULT=="one"`, `PROGRAM=="say one", RESULT=="one"`, `RESULT=="one"`, `PROGRAM=="bad", RESULT!="x"`, `RESULT==""`}, 1, 2, 4)
	in := input(disk)
	in.Action = "remove"
	if got := heldOf(t, in, `ACTION=="add"`, `ACTION=="remove"`, `ACTION!="re*"`); len(got) != 1 || got[0] != 1 {
		t.Errorf("%v held", got)
	}
}

// What is imported in a rule is there for the matches behind it.
func TestImportedForMatches(t *testing.T) {
	holds(t, true, disk, `ENV{A}=="", IMPORT{program}=="items", ENV{A}=="2", ENV{B}=="two*"`)
	holds(t, true, disk, `ENV{ID_A}=="", IMPORT{parent}=="ID_A", ENV{ID_A}=="1", ENV{ID_B}==""`)
	holds(t, true, disk, `ENV{ID_FS_UUID}=="", IMPORT{builtin}=="content", ENV{ID_FS_UUID}=="t"`)
	holds(t, true, disk, `RESULT=="", PROGRAM=="say one", RESULT=="one", PROGRAM=="say two", RESULT=="more*"`)
}

// The matches are looked at in order, up to the first one that does not hold: what stands behind it has no effect.
func TestFirstThatFails(t *testing.T) {
	for _, fails := range []string{`KERNEL=="none"`, `DRIVERS=="none"`, `ACTION!="add"`, `ENV{DEVPATH}==""`, `TAG=="*"`, `RESULT=="?*"`, `PROGRAM=="none"`, `IMPORT{program}=="none"`, `IMPORT{parent}!="none"`, `IMPORT{builtin}=="net"`} {
		for _, behind := range []string{`PROGRAM=="say one"`, `IMPORT{program}=="items"`, `IMPORT{parent}=="*"`, `IMPORT{builtin}=="path"`, `ENV{A}="1"`, `GOTO="end"`} {
			d := draftOf(t, disk, fails+", "+behind+`, ENV{B}="1"`, `ENV{C}="%c"`, `LABEL="end"`)
			propsAre(t, d)
			calls := 0
			if fails == `PROGRAM=="none"` || fails == `IMPORT{program}=="none"` {
				calls = 1
			}
			ranAre(t, d, calls, 0, "")
			heldAre(t, disk, []string{fails + ", " + behind, `ENV{C}=""`, `LABEL="end"`}, 1, 2)
		}
	}
}

// What stands ahead of a match that does not hold has its effect: calls, ticks, the result and what is imported.
func TestAheadOfTheOneThatFails(t *testing.T) {
	d := draftOf(t, disk, `PROGRAM=="say one", IMPORT{program}=="items", IMPORT{parent}=="ID_*", IMPORT{builtin}=="path", ENV{Z}="1", KERNEL=="none", PROGRAM=="say two"`)
	propsAre(t, d, "A", "2", "B", "two words", "ID_A", "1", "ID_B", "2 3", "ID_PATH", "pci:pci0-block:c0!d0", "ID_PATH_TAG", "pci_pci0_block_c0_d0")
	ranAre(t, d, 2, 5, "one")
}

// Assignments are made behind all matches, also those that are written ahead of them.
func TestAssignmentsAhead(t *testing.T) {
	d := draftOf(t, disk, `ENV{A}="%c$id", PROGRAM=="say one", TAG+="t", SUBSYSTEMS=="pci"`)
	propsAre(t, d, "A", "onepci0")
	listIs(t, "tags", d.Tags, "t")
	propsAre(t, draftOf(t, disk, `ENV{A}="1", TAG=="t"`))
}

// The upward matches of a rule hold at one device: the nearest one.
func TestUpwardMatches(t *testing.T) {
	for line, want := range map[string]bool{
		`KERNELS=="pci0"`:                                            true,
		`KERNELS=="usb0"`:                                            false,
		`KERNELS!="c0!d0p1", KERNELS!="c0!d0"`:                       true,
		`SUBSYSTEMS=="pci", DRIVERS=="bridge"`:                       true,
		`SUBSYSTEMS=="pci", DRIVERS=="raid"`:                         false,
		`ATTRS{size}=="d", ATTRS{model}=="m*"`:                       true,
		`ATTRS{size}=="d", ATTRS{vendor}=="v1"`:                      false,
		`ATTRS{size}=="d", ATTRS{vendor}==""`:                        true,
		`SUBSYSTEMS=="block", KERNEL=="c0!d0p1", DRIVERS==""`:        true,
		`SUBSYSTEMS=="virtual"`:                                      false,
		`DRIVERS=="?*", ENV{DEVNAME}=="c0/d0p1", KERNELS=="c0!d0"`:   true,
		`DRIVERS=="?*", ENV{DEVNAME}=="c0/d0p1", KERNELS=="c0!d0p1"`: false,
	} {
		holds(t, want, part, line)
	}
}

// The first upward match decides for all of the rule: PROGRAM behind it is not called if another one does not hold.
func TestFirstUpwardMatchDecides(t *testing.T) {
	d := draftOf(t, part, `SUBSYSTEMS=="pci", PROGRAM=="say one", DRIVERS=="raid"`)
	ranAre(t, d, 0, 0, "")
	d = draftOf(t, part, `PROGRAM=="say one", SUBSYSTEMS=="pci", PROGRAM=="say two", DRIVERS=="raid"`)
	ranAre(t, d, 1, 1, "one")
	d = draftOf(t, part, `PROGRAM=="say one", SUBSYSTEMS=="pci", PROGRAM=="say two", DRIVERS=="bridge", TAG+="t"`)
	ranAre(t, d, 2, 3, "more  words than one")
	listIs(t, "tags", d.Tags, "t")
}
