package compile_test

import (
	"strings"
	"testing"

	"coldplug/api"
	"coldplug/compile"
)

// P16.1: Rules returns the rules of New, with files, lines and all terms, also rules that are alike.
func TestRules(t *testing.T) {
	l := rulesOf(t, `SUBSYSTEM=="net", NAME="lan%n"`, `TAG+="a"`, `TAG+="a"`, `PROGRAM=="say x", SUBSYSTEM=="net", GOTO="end"`, `LABEL="end"`)
	l[1].File, l[1].Line = "b.rules", 99
	sameRules(t, "five rules", compile.New(l).Rules(), l)
	sameRules(t, "one rule", compile.New(l[:1]).Rules(), l[:1])
	sameRules(t, "no rules", compile.New(nil).Rules(), nil)
	sameRules(t, "an empty list of rules", compile.New([]api.Rule{}).Rules(), nil)
}

// P16.1: the chapter's example, keys in their order, and each once.
func TestKeys(t *testing.T) {
	keysAre(t, example(), "block")
	keysAre(t, []string{`SUBSYSTEM=="usb"`, `SUBSYSTEM=="net"`, `SUBSYSTEM=="usb"`, `SUBSYSTEM=="block"`, `SUBSYSTEM=="net"`}, "block", "net", "usb")
	keysAre(t, []string{`SUBSYSTEM=="b"`, `SUBSYSTEM=="B"`, `SUBSYSTEM=="a b"`, `SUBSYSTEM=="a"`, `SUBSYSTEM=="~"`, `SUBSYSTEM=="a10"`, `SUBSYSTEM=="a2"`}, "B", "a", "a b", "a10", "a2", "b", "~")
	keysAre(t, nil)
	keysAre(t, []string{`TAG+="a"`, `KERNEL=="net"`})
}

// P16.1: the key is the value of a match on SUBSYSTEM with == that is a literal glob.
func TestWhatIsKey(t *testing.T) {
	keysAre(t, []string{`SUBSYSTEM!="net"`})
	keysAre(t, []string{`SUBSYSTEMS=="net"`})
	keysAre(t, []string{`KERNEL=="net", DRIVER=="net", ATTR{SUBSYSTEM}=="net", ENV{SUBSYSTEM}=="net"`})
	keysAre(t, []string{`ENV{SUBSYSTEM}="net", TAG+="net"`})
	for _, glob := range []string{"net*", "n?t", "net|usb", "net|net", "|", "[n]et", "[!n]et", "*"} {
		keysAre(t, []string{`SUBSYSTEM=="` + glob + `"`})
	}
	for _, glob := range []string{"net", "", "]", "n-t", "!net", "$net", "a b", strings.Repeat("n", 256)} {
		keysAre(t, []string{`SUBSYSTEM=="` + glob + `"`}, glob)
	}
}

// P16.1: the key is that of the first such match, which may stand anywhere in the front.
func TestFirstKey(t *testing.T) {
	keysAre(t, []string{`SUBSYSTEM=="net", SUBSYSTEM=="block"`}, "net")
	keysAre(t, []string{`SUBSYSTEM=="n*", SUBSYSTEM!="usb", SUBSYSTEM=="net", SUBSYSTEM=="block"`}, "net")
	keysAre(t, []string{`KERNEL=="a", TAG=="b", SUBSYSTEMS=="usb", TAG+="a", NAME="c", SUBSYSTEM=="net"`}, "net")
	keysAre(t, []string{`LABEL="a", SUBSYSTEM=="net"`}, "net")
	keysAre(t, []string{`RESULT=="a", ACTION=="b", ENV{C}=="d", SUBSYSTEM=="net"`}, "net")
}

// P16.1: what stands behind a PROGRAM or IMPORT is not of the front, and so gives no key.
func TestKeyBehindEffects(t *testing.T) {
	keysAre(t, []string{`PROGRAM=="x", SUBSYSTEM=="net"`})
	keysAre(t, []string{`PROGRAM!="x", SUBSYSTEM=="net"`})
	keysAre(t, []string{`IMPORT{program}=="x", SUBSYSTEM=="net"`})
	keysAre(t, []string{`IMPORT{parent}=="x", SUBSYSTEM=="net"`})
	keysAre(t, []string{`IMPORT{builtin}!="path", SUBSYSTEM=="net"`})
	keysAre(t, []string{`SUBSYSTEM=="n*", IMPORT{builtin}=="path", SUBSYSTEM=="net"`})
	keysAre(t, []string{`SUBSYSTEM=="net", PROGRAM=="x", SUBSYSTEM=="usb"`}, "net")
	keysAre(t, []string{`SUBSYSTEM=="usb", RUN+="x"`, `PROGRAM=="x", SUBSYSTEM=="net"`, `SUBSYSTEM=="net"`}, "net", "usb")
}
