package glob_test

import (
	"strings"
	"testing"

	"coldplug/api"
	"coldplug/glob"
)

// P2.3
func TestLiteral(t *testing.T) {
	for _, s := range []string{"", "usb", "]", "!", "-", "a]b", " ", "a-b!~", "\\", strings.Repeat("a", 256)} {
		if got, ok := glob.Literal(s); got != s || !ok {
			t.Errorf("Literal(%q): got %q and %v", s, got, ok)
		}
	}
	others := []string{"usb*", "*", "?", "a?", "?a", "a|a", "|", "a|", "|a", "[a]", "a[a-a]", "[a]b", "[*]", "[|]", "a**", strings.Repeat("a", 257)}
	for _, p := range append(others, wrongPatterns...) {
		if got, ok := glob.Literal(p); got != "" || ok {
			t.Errorf("Literal(%q): got %q and %v", p, got, ok)
		}
	}
}

// P2.3: of the bytes, all but those of wildcards, sets and borders stand for themselves.
func TestLiteralOfBytes(t *testing.T) {
	for b := range 256 {
		s := string([]byte{byte(b)})
		want := b >= 32 && b <= 126 && !strings.Contains("?*[|", s)
		if got, ok := glob.Literal(s); ok != want || want && got != s {
			t.Errorf("Literal(%q): got %q and %v, want %v", s, got, ok, want)
		}
		if !want {
			s = ""
		}
		if got, err := glob.Prefix("x" + s); got != "x"+s || err != api.OK {
			t.Errorf("Prefix(%q): got %q and %d", "x"+s, got, err)
		}
	}
}

// P2.3
func TestPrefix(t *testing.T) {
	long := strings.Repeat("a", 256)
	for p, want := range map[string]string{
		"usb:v1*|usb:w?": "usb:",
		"":               "",
		"abc":            "abc",
		"ab|a":           "a",
		"a|ab":           "a",
		"ab|":            "",
		"|ab":            "",
		"abc|abc":        "abc",
		"abc|abd|axc":    "a",
		"abx|aby|abz":    "ab",
		"ax|a|b":         "",
		"abc*|abc?|ab*":  "ab",
		"ab[c]d|ab[c]e":  "ab",
		"[a]b":           "",
		"a[b|c]d|abd":    "a",
		"*a":             "",
		"a*|?":           "",
		"a?b|a*c":        "a",
		"a]b!*":          "a]b!",
		long:             long,
	} {
		if got, err := glob.Prefix(p); got != want || err != api.OK {
			t.Errorf("Prefix(%q): got %q and %d, want %q", p, got, err, want)
		}
	}
	for _, p := range wrongPatterns {
		if got, err := glob.Prefix("ab" + p); got != "" || err != api.ErrGlobForm {
			t.Errorf("Prefix(%q): got %q and %d, want ErrGlobForm", "ab"+p, got, err)
		}
	}
	if got, err := glob.Prefix(long + "["); got != "" || err != api.ErrGlobLimit {
		t.Errorf("Prefix of a pattern that is too long: got %q and %d", got, err)
	}
}

// P2.4
func TestCommon(t *testing.T) {
	for _, c := range []struct {
		p, q, want string
		found      bool
	}{
		{"a*", "*b", "ab", true},
		{"?", "??", "", false},
		{"*[b-z]", "a*|x", "x", true},
		{"", "", "", true},
		{"*", "*", "", true},
		{"?", "?", " ", true},
		{"a", "a", "a", true},
		{"a", "b", "", false},
		{"a", "", "", false},
		{"a|", "|b", "", true},
		{"b|a", "a|b", "a", true},
		{"bb|b|a", "*", "a", true},
		{"aa|b", "?*", "b", true},
		{"[! ]", "?", "!", true},
		{"[! -~]", "*", "", false},
		{"[! -~]*|b", "*", "b", true},
		{"*[! -~]", "*", "", false},
		{"[!b]", "[b]", "", false},
		{"[!a-y]", "[b-z]", "z", true},
		{"*a*", "*b*", "ab", true},
		{"*aa*b*", "*ba*", "aaba", true},
		{"a*a", "aa", "aa", true},
		{"a*a", "a", "", false},
		{"*a*a", "*a", "aa", true},
		{"[ab]|ca", "a*b|?a", "ca", true},
		{"b*|a??", "*c", "bc", true},
		{"*b?", "a*", "ab ", true},
		{"~*", "*~", "~", true},
		{"?*?", "*b", " b", true},
		{"a?c*", "*b?d", "abcd", true},
		{"[ab][cd]", "[bc][de]", "bd", true},
		{"[bc]a|[ab]b", "?*", "ab", true},
		{"x|[c-z][|]", "?|", "x", true},
	} {
		for _, pq := range [][2]string{{c.p, c.q}, {c.q, c.p}} {
			if got, found, err := glob.Common(pq[0], pq[1]); got != c.want || found != c.found || err != api.OK {
				t.Errorf("Common(%q, %q): got %q, %v and %d, want %q and %v", pq[0], pq[1], got, found, err, c.want, c.found)
			}
		}
	}
}

// P2.4: the error of p comes before the one of q.
func TestCommonOfWrongPatterns(t *testing.T) {
	long := strings.Repeat("a", 257)
	for _, c := range []struct {
		p, q string
		want api.Errno
	}{
		{long, "[", api.ErrGlobLimit},
		{"[", long, api.ErrGlobForm},
		{"[", "a", api.ErrGlobForm},
		{"a", "[", api.ErrGlobForm},
		{"a", long, api.ErrGlobLimit},
		{long, "b", api.ErrGlobLimit},
		{"|[b-a]", "", api.ErrGlobForm},
		{"", "[!]|", api.ErrGlobForm},
	} {
		if got, found, err := glob.Common(c.p, c.q); got != "" || found || err != c.want {
			t.Errorf("Common(%q, %q): got %q, %v and %d, want %d", c.p, c.q, got, found, err, c.want)
		}
	}
}

// P2.4: the first of all texts that both patterns match, for all short patterns of some pieces. Texts of 4 bytes are long enough: where a star makes longer ones possible, at most two of three pieces have to take a byte.
func TestCommonAgainstDefinition(t *testing.T) {
	texts := textsOf(" abc", 4)
	patterns := patternsOf([]string{"a", "*", "?", "[!a-b]", "[bc]", "|"}, 3)
	var matched [][]bool
	for _, p := range patterns {
		row := make([]bool, len(texts))
		for i, s := range texts {
			row[i] = matchesSlowly(p, s)
		}
		matched = append(matched, row)
	}
	for i, p := range patterns {
		for j, q := range patterns {
			want, found := "", false
			for k, s := range texts {
				if matched[i][k] && matched[j][k] {
					want, found = s, true
					break
				}
			}
			if got, ok, err := glob.Common(p, q); got != want || ok != found || err != api.OK {
				t.Fatalf("Common(%q, %q): got %q, %v and %d, want %q and %v", p, q, got, ok, err, want, found)
			}
		}
	}
}

// P2.4: the greatest patterns.
func TestCommonOfLongPatterns(t *testing.T) {
	a, b := strings.Repeat("a", 255), strings.Repeat("b", 255)
	for _, c := range []struct {
		p, q, want string
		found      bool
	}{
		{"*" + a, b + "*", b + a, true},
		{a + "*", "*" + b, a + b, true},
		{a + "b", "*b", a + "b", true},
		{"*" + a, "*" + a, a, true},
		{a + "?", b + "*", "", false},
		{strings.Repeat("*", 256), strings.Repeat("?", 256), strings.Repeat(" ", 256), true},
		{strings.Repeat("*a", 128), strings.Repeat("a*", 128), strings.Repeat("a", 128), true},
		{strings.Repeat("*a", 128), strings.Repeat("*b", 128), "", false},
		{strings.Repeat("*a", 128), strings.Repeat("b*", 128), "b" + strings.Repeat("a", 127) + strings.Repeat("b", 127) + "a", true},
		{strings.Repeat("?*", 128), strings.Repeat("*?", 128), strings.Repeat(" ", 128), true},
		{strings.Repeat("|", 256), strings.Repeat("|", 256), "", true},
		{strings.Repeat("a|", 127) + "bb", strings.Repeat("c|", 127) + "b*", "bb", true},
	} {
		if got, found, err := glob.Common(c.p, c.q); got != c.want || found != c.found || err != api.OK {
			t.Errorf("Common(%q, %q): got %q, %v and %d, want %q and %v", c.p, c.q, got, found, err, c.want, c.found)
		}
	}
}

// The chapter's consequences: what matches a pattern begins with its prefix, and the common text with "*" is the least one of a pattern.
func TestConsequences(t *testing.T) {
	texts := textsOf("]ab", 4)
	for _, p := range patternsOf([]string{"a", "b", "]", "*", "[b]", "|"}, 4) {
		prefix, err := glob.Prefix(p)
		if err != api.OK {
			t.Fatalf("Prefix(%q): got %d", p, err)
		}
		least, found := "", false
		for _, s := range texts {
			if !glob.Match(p, s) {
				continue
			}
			if !strings.HasPrefix(s, prefix) {
				t.Fatalf("%q matches %q, which does not begin with %q", p, s, prefix)
			}
			if !found {
				least, found = s, true
			}
		}
		if got, ok, err := glob.Common(p, "*"); got != least || ok != found || err != api.OK {
			t.Fatalf("Common(%q, \"*\"): got %q, %v and %d, want %q and %v", p, got, ok, err, least, found)
		}
		if s, ok := glob.Literal(p); ok && (s != least || s != prefix) {
			t.Fatalf("Literal(%q): got %q, want %q", p, s, least)
		}
	}
}
