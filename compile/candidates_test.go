package compile_test

import (
	"strings"
	"testing"

	"coldplug/api"
	"coldplug/compile"
)

// example is the chapter's example.
func example() []string {
	return []string{
		`SUBSYSTEM=="block", KERNEL=="sd*", TAG+="a"`,
		`PROGRAM=="x", SUBSYSTEM=="net", TAG+="a"`,
		`SUBSYSTEM=="net|usb", TAG+="a"`,
		`TAG=="a", TAG+="b"`,
	}
}

// P16.2: the chapter's example.
func TestExample(t *testing.T) {
	placesAre(t, disk, example(), 0, 1, 3)
	placesAre(t, eth, example(), 1, 2, 3)
	placesAre(t, usb, example(), 1, 2, 3)
	placesAre(t, pci, example(), 1, 3)
}

// P16.2: rules with keys and without are candidates in the order in which they stand.
func TestOrder(t *testing.T) {
	mixed := []string{`SUBSYSTEM=="net"`, `TAG+="a"`, `SUBSYSTEM=="block"`, `SUBSYSTEM=="n*"`, `SUBSYSTEM=="net"`, `SUBSYSTEM=="net", KERNEL=="eth7"`, `KERNEL=="sda"`, `SUBSYSTEM!="usb"`, `SUBSYSTEM=="net"`}
	placesAre(t, eth, mixed, 0, 1, 3, 4, 5, 7, 8)
	placesAre(t, disk, mixed, 1, 2, 6, 7)
	placesAre(t, usb, mixed, 1)
	placesAre(t, eth, []string{`SUBSYSTEM=="net"`, `SUBSYSTEM=="net"`}, 0, 1)
	placesAre(t, disk, []string{`SUBSYSTEM=="net"`, `SUBSYSTEM=="net"`})
	placesAre(t, disk, []string{`TAG+="a"`, `TAG+="a"`}, 0, 1)
	placesAre(t, disk, nil)
}

// P16.2: all static matches of the front have to hold: on KERNEL, SUBSYSTEM, DRIVER and ATTR, with == and with !=.
func TestFront(t *testing.T) {
	for _, line := range []string{
		`KERNEL=="sd*"`, `KERNEL!="eth*"`, `SUBSYSTEM=="block"`, `SUBSYSTEM!="net"`, `DRIVER=="s?"`, `DRIVER!=""`,
		`ATTR{size}=="[0-9]*"`, `ATTR{size}!="13"`, `ATTR{none}==""`, `ATTR{none}!="?*"`,
	} {
		isCandidate(t, true, disk, line)
	}
	for _, line := range []string{
		`KERNEL!="sd*"`, `KERNEL=="eth*"`, `SUBSYSTEM!="block"`, `SUBSYSTEM=="net"`, `DRIVER!="s?"`, `DRIVER==""`,
		`ATTR{size}!="[0-9]*"`, `ATTR{size}=="13"`, `ATTR{none}!=""`, `ATTR{none}=="?*"`,
	} {
		isCandidate(t, false, disk, line)
		isCandidate(t, false, disk, line+`, KERNEL=="*"`)
		isCandidate(t, false, disk, `KERNEL=="*", SUBSYSTEM=="block", TAG+="a", `+line)
		isCandidate(t, false, disk, `TAG=="none", ENV{A}=="none", KERNELS=="none", `+line)
	}
	isCandidate(t, false, disk, `SUBSYSTEM=="block", SUBSYSTEM=="net"`)
	isCandidate(t, false, disk, `SUBSYSTEM=="net", SUBSYSTEM=="block"`)
	isCandidate(t, true, disk, `SUBSYSTEM=="block", SUBSYSTEM=="b*"`)
}

// P16.2: KERNEL asks for the name that the kernel gave at the beginning.
func TestOriginalName(t *testing.T) {
	isCandidate(t, true, eth, `KERNEL=="eth7"`)
	isCandidate(t, false, eth, `KERNEL=="lan0"`)
}

// P16.2: matches that are not static are not of the front, whether they hold or not.
func TestNotStatic(t *testing.T) {
	for _, line := range []string{
		`ACTION=="none"`, `ENV{A}=="none"`, `TAG=="none"`, `RESULT=="none"`,
		`KERNELS=="none"`, `SUBSYSTEMS=="none"`, `DRIVERS=="none"`, `ATTRS{size}=="none"`,
		`PROGRAM=="none"`, `IMPORT{program}=="none"`, `IMPORT{parent}!="*"`, `IMPORT{builtin}=="net"`, `TAG+="a"`, `LABEL="a"`,
	} {
		isCandidate(t, true, disk, line)
		isCandidate(t, true, disk, line+`, SUBSYSTEM=="block"`)
		isCandidate(t, true, disk, `SUBSYSTEM=="block", `+line)
	}
}

// P16.2: the front ends at the first PROGRAM or IMPORT: what stands behind is not asked.
func TestEndOfFront(t *testing.T) {
	for _, end := range []string{`PROGRAM=="x"`, `PROGRAM!="x"`, `IMPORT{program}=="x"`, `IMPORT{parent}=="*"`, `IMPORT{builtin}=="path"`, `IMPORT{builtin}!="content"`} {
		isCandidate(t, true, disk, end+`, SUBSYSTEM=="net"`)
		isCandidate(t, true, disk, end+`, KERNEL=="none", `+end)
		isCandidate(t, true, disk, `SUBSYSTEM=="block", `+end+`, SUBSYSTEM=="net"`)
		isCandidate(t, false, disk, `SUBSYSTEM=="net", `+end)
		isCandidate(t, false, disk, `TAG=="a", KERNEL=="none", `+end+`, KERNEL=="sda"`)
	}
}

// P16.2: Candidates is asked for devices of no tree, too.
func TestAnyDevice(t *testing.T) {
	p := compile.New(rulesOf(t, `SUBSYSTEM==""`, `SUBSYSTEM=="a"`, `KERNEL==""`, `SUBSYSTEM!="a"`))
	for _, c := range []struct {
		subsystem string
		want      int
	}{{"", 3}, {"a", 2}, {"A", 2}, {"\x00", 2}, {strings.Repeat("a", 300), 2}} {
		if got := p.Candidates(api.Device{Subsystem: c.subsystem}); len(got) != c.want {
			t.Errorf("%q: the candidates are %v, want %d", c.subsystem, got, c.want)
		}
	}
}
