package assign_test

import (
	"fmt"
	"strconv"
	"strings"
	"testing"

	"coldplug/api"
	"coldplug/assign"
)

// P13.2: NAME takes interface names alone.
func TestNames(t *testing.T) {
	right := []string{"a", "lan1", "A.b_c+d-e9", strings.Repeat("n", api.MaxIface), "..."}
	wrong := []string{"", ".", "..", "a:b", "a!b", "a/b", "a b", "lan1 ", "a@", "\n", "é", strings.Repeat("n", api.MaxIface+1)}
	for _, value := range wrong {
		draftIs(t, "NAME="+value, apply(rich(), "NAME", "=", value), rich())
		draftIs(t, "NAME:="+value, opened(apply(rich(), "NAME", ":=", value)), rich())
	}
	for _, value := range right {
		want := rich()
		want.Name = value
		draftIs(t, "NAME="+value, apply(rich(), "NAME", "=", value), want)
		draftIs(t, "NAME:="+value, opened(apply(rich(), "NAME", ":=", value)), want)
	}
}

// P13.2: OWNER and GROUP take names, each for itself.
func TestOwners(t *testing.T) {
	for _, value := range namesAreWrong {
		draftIs(t, "OWNER="+value, apply(rich(), "OWNER", "=", value), rich())
		draftIs(t, "GROUP="+value, apply(rich(), "GROUP", "=", value), rich())
	}
	for _, value := range namesAreRight {
		owned, grouped := rich(), rich()
		owned.Owner, grouped.Group = value, value
		draftIs(t, "OWNER="+value, apply(rich(), "OWNER", "=", value), owned)
		draftIs(t, "GROUP="+value, apply(rich(), "GROUP", "=", value), grouped)
		owned.Closed, grouped.Closed = []api.Term{{Key: api.KeyOwner}}, []api.Term{{Key: api.KeyGroup}}
		draftIs(t, "OWNER:="+value, apply(rich(), "OWNER", ":=", value), owned)
		draftIs(t, "GROUP:="+value, apply(rich(), "GROUP", ":=", value), grouped)
	}
}

// P13.2: the chapter's example.
func TestModeExample(t *testing.T) {
	d := assign.Begin(nil)
	closed := d
	closed.Closed = []api.Term{{Key: api.KeyMode}}
	draftIs(t, "MODE", apply(d, "MODE", ":=", "9", "=", "0660"), closed)
}

// P13.2: MODE takes 1 to 4 octal digits, whatever zeros they begin with.
func TestModes(t *testing.T) {
	for mode := range 0o10000 {
		for digits := 1; digits <= 6; digits++ {
			value := fmt.Sprintf("%0*o", digits, mode)
			want := rich()
			if len(value) <= 4 {
				want.Mode = mode
			}
			if got := apply(rich(), "MODE", "=", value).Mode; got != want.Mode {
				t.Fatalf("MODE=%q: got %o", value, got)
			}
		}
	}
	for b := range 256 {
		for _, value := range []string{string([]byte{byte(b)}), "6" + string([]byte{byte(b)}), string([]byte{byte(b)}) + "6", "06" + string([]byte{byte(b)}) + "0"} {
			want := 0o640
			if b >= '0' && b <= '7' {
				n, _ := strconv.ParseInt(value, 8, 64)
				want = int(n)
			}
			for _, op := range []string{"=", ":="} {
				if got := apply(rich(), "MODE", op, value).Mode; got != want {
					t.Errorf("MODE%s%q: got %o, want %o", op, value, got, want)
				}
			}
		}
	}
	for _, value := range []string{"", "00000", "10000", "77777", " 660", "660 ", "0o66", "0x6", "-0", "1e1", strings.Repeat("0", 300)} {
		draftIs(t, "MODE="+value, apply(rich(), "MODE", "=", value), rich())
	}
}

// P13.2: PRIORITY takes numbers from -1000 to 1000 that are written as layer 10 says.
func TestPriorities(t *testing.T) {
	for n := -1500; n <= 1500; n++ {
		want := rich()
		if n >= -1000 && n <= 1000 {
			want.Priority = n
		}
		draftIs(t, "PRIORITY", apply(rich(), "PRIORITY", "=", strconv.Itoa(n)), want)
	}
	for _, value := range []string{"", "-", "+1", "-0", "00", "01", "-01", " 1", "1 ", "1.0", "0x1", "1_0", "--1", "a", "\x00", "99999999999999999999", "-99999999999999999999", "18446744073709551617", "١"} {
		draftIs(t, "PRIORITY="+value, apply(rich(), "PRIORITY", "=", value), rich())
	}
}

// P13.2: LABEL and GOTO do nothing.
func TestLabels(t *testing.T) {
	for _, key := range []string{"LABEL", "GOTO"} {
		for _, value := range []string{"", "end", "lan9", "0600", "5"} {
			draftIs(t, key, apply(rich(), key, "=", value), rich())
		}
	}
}
