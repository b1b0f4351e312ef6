package glob_test

import (
	"strings"
	"testing"

	"coldplug/api"
	"coldplug/glob"
)

// rightPatterns are patterns with what is special about sets and borders.
var rightPatterns = []string{
	"", "|", "||", "a", "]", "!", "-", "]]", "a]", "a-b", "!a", "{}", "\\", "?", "*", "**", "*|?",
	"[a]", "[-]", "[-a]", "[a-]", "[--]", "[---]", "[--a]", "[a-a]", "[a-b-c]", "[a-c-e]", "[a-c-+]", "[ -~]", "[|]", "[a|b]", "[a-|]", "[*]", "[?]", "[[]", "[[-a]", "[A-[b]|", "[!a]", "[!!]", "[!-]", "[!a-]", "[!!-a]", "[!a!]", "[a!]", "[!|]", "[! -~]", "[~]", "[ ]",
}

// wrongPatterns are no patterns, each for another reason.
var wrongPatterns = []string{
	"[", "[]", "[!", "[!]", "[]a]", "[!]a]", "a[b", "[a-", "[!a-", "[b-a]", "[!b-a]", "[ab-a]", "[a-cc-b]", "[a-c--+]", "[!a", "[|", "a|[", "[|a", "[a]|[b", "[a][", "a|b[", "[a-[", "[~- ]",
	"\t", "a\x1f", "\x7f", "é", "\xff", "a|\x00", "[\x1f]", "[\x1f-a]", "[a-\x7f]", "[!\x80]", "a\nb",
}

// P2.1
func TestCheck(t *testing.T) {
	for _, p := range rightPatterns {
		if err := glob.Check(p); err != api.OK {
			t.Errorf("Check(%q): got %d", p, err)
		}
	}
	for _, p := range wrongPatterns {
		if err := glob.Check(p); err != api.ErrGlobForm {
			t.Errorf("Check(%q): got %d, want ErrGlobForm", p, err)
		}
	}
}

// P2.1: every byte, alone and as a member of a set.
func TestCheckOfBytes(t *testing.T) {
	for b := range 256 {
		s := string([]byte{byte(b)})
		want := api.OK
		if b < 32 || b > 126 {
			want = api.ErrGlobForm
		}
		if err := glob.Check("[a" + s + "b]"); err != want && b != '-' {
			t.Errorf("Check of a set with the byte %d: got %d, want %d", b, err, want)
		}
		if b == '[' {
			want = api.ErrGlobForm
		}
		if err := glob.Check(s); err != want {
			t.Errorf("Check of the byte %d: got %d, want %d", b, err, want)
		}
	}
}

// P2.1: the length comes first.
func TestCheckOfLengths(t *testing.T) {
	for _, part := range []string{"a", "?", "*", "|", "[a]x", "[--a]|*b"} {
		p := strings.Repeat(part, 256/len(part))
		if err := glob.Check(p); err != api.OK {
			t.Errorf("Check of %d bytes of %q: got %d", len(p), part, err)
		}
	}
	for _, p := range []string{"[" + strings.Repeat("a", 254) + "]", "[!" + strings.Repeat("a", 253) + "]"} {
		if err := glob.Check(p); err != api.OK {
			t.Errorf("Check of a set of %d bytes: got %d", len(p), err)
		}
	}
	for _, part := range []string{"a", "[", "\x00", "|"} {
		if err := glob.Check(strings.Repeat(part, 257)); err != api.ErrGlobLimit {
			t.Errorf("Check of 257 bytes %q: got %d, want ErrGlobLimit", part, err)
		}
	}
	if err := glob.Check(strings.Repeat("\xff", 256)); err != api.ErrGlobForm {
		t.Errorf("Check of 256 bytes 255: got %d, want ErrGlobForm", err)
	}
}

// P2.2
func TestMatch(t *testing.T) {
	for _, c := range []struct {
		p, s string
		want bool
	}{
		{"sd[a-c]*|nvme?", "sdb1", true},
		{"sd[a-c]*|nvme?", "sdb", true},
		{"sd[a-c]*|nvme?", "sdd1", false},
		{"sd[a-c]*|nvme?", "nvme0", true},
		{"sd[a-c]*|nvme?", "nvme", false},
		{"sd[a-c]*|nvme?", "nvme01", false},
		{"sd[!a-c]", "sdb", false},
		{"sd[!a-c]", "sdd", true},
		{"sd[!a-c]", "sd", false},
		{"", "", true},
		{"", " ", false},
		{"a|", "", true},
		{"|a", "", true},
		{"a||b", "b", true},
		{"a|b", "", false},
		{"a|b", "a|b", false},
		{"a|b", "ab", false},
		{"[a|b]", "|", true},
		{"[a|b]c", "bc", true},
		{"[!|]", "|", false},
		{"A", "a", false},
		{"*", "", true},
		{"**", "", true},
		{"a*b*c", "abc", true},
		{"a*b*c", "axxbyyc", true},
		{"a*b*c", "acb", false},
		{"*ab", "aab", true},
		{"*ab", "abab", true},
		{"*ab", "aba", false},
		{"*a?b", "aaaab", true},
		{"*abc*abc", "abcabc", true},
		{"*abc*abc", "abcab", false},
		{"a*a", "a", false},
		{"a*a", "aa", true},
		{"*", "/:.[|]", true},
		{"]", "]", true},
		{"[[]", "[", true},
		{"\\*", "\\x", true},
	} {
		if got := glob.Match(c.p, c.s); got != c.want {
			t.Errorf("Match(%q, %q): got %v, want %v", c.p, c.s, got, c.want)
		}
	}
}

// P2.2: which single bytes the patterns match.
func TestMatchOfBytes(t *testing.T) {
	for _, p := range append(rightPatterns, "[a-cx-z]", "[!a-cx-z]", "[0-9A-Z_a-z]", "[!0-9A-Z_a-z]", "[ -/]", "[{-~]", "a|[b]|[!a-z]") {
		for b := range 256 {
			s := string([]byte{byte(b)})
			if got, want := glob.Match(p, s), matchesSlowly(p, s); got != want {
				t.Errorf("Match(%q, %q): got %v, want %v", p, s, got, want)
			}
		}
	}
}

// P2.2: wrong patterns match nothing.
func TestMatchOfWrongPatterns(t *testing.T) {
	for _, p := range wrongPatterns {
		for _, s := range []string{"", "a", "b", p} {
			if glob.Match(p, s) {
				t.Errorf("Match(%q, %q): got true", p, s)
			}
		}
	}
	if long := strings.Repeat("a", 257); glob.Match(long, long) || glob.Match("|"+long[1:], "") {
		t.Error("Match: a pattern that is too long matches")
	}
}

// P2.2: a byte that a text can not have prevents a match wherever it stands.
func TestMatchOfWrongTexts(t *testing.T) {
	for _, s := range []string{"\x1f", "\x7f", "\x80", "\xff", "é", "\x00"} {
		for _, text := range []string{s, "a" + s, s + "a", "a" + s + "a", "aaa" + s + "aaa"} {
			for _, p := range []string{"*", "?", "[!b]", "*?", "?*", "*a", "a*", "a*a", "*a*", "a?a", "a[!b]a", "*|**", "***"} {
				if glob.Match(p, text) {
					t.Errorf("Match(%q, %q): got true", p, text)
				}
			}
		}
	}
}

// P2.2: all short patterns of some pieces against all short texts.
func TestMatchAgainstDefinition(t *testing.T) {
	texts := textsOf("ab|", 4)
	for _, p := range patternsOf([]string{"a", "b", "*", "?", "[!a]", "[a|]", "|"}, 4) {
		for _, s := range texts {
			if got, want := glob.Match(p, s), matchesSlowly(p, s); got != want {
				t.Fatalf("Match(%q, %q): got %v, want %v", p, s, got, want)
			}
		}
	}
}

// P2.2: the text has any length, and many stars take no time without end.
func TestMatchOfLongTexts(t *testing.T) {
	long := strings.Repeat("a", 100000)
	stars := strings.Repeat("*a", 127)
	for p, want := range map[string]bool{
		"*":                            true,
		"a*a":                          true,
		stars:                          true,
		stars + "b":                    false,
		stars + "*":                    true,
		strings.Repeat("*", 256):       true,
		strings.Repeat("?", 256):       false,
		strings.Repeat("?", 255) + "*": true,
		"b|*b*|[!b]*a":                 true,
	} {
		if got := glob.Match(p, long); got != want {
			t.Errorf("Match(%q) of a long text: got %v, want %v", p, got, want)
		}
	}
	if !glob.Match("*b", long+"b") || glob.Match("*b", long+"b\n") {
		t.Error("Match: the end of a long text does not count")
	}
}
