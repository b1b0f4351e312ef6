package name_test

import (
	"strings"
	"testing"

	"coldplug/name"
)

// kinds are the functions of P1.1 with the bytes that their texts may have, and with their greatest lengths.
var kinds = []struct {
	title   string
	is      func(string) bool
	members string
	longest int
}{
	{"Valid", name.Valid, "ABCDEFGHIJKLMNOPQRSTUVWXYZabcdefghijklmnopqrstuvwxyz0123456789_.:+-!", 32},
	{"Key", name.Key, "ABCDEFGHIJKLMNOPQRSTUVWXYZ0123456789_", 32},
	{"Text", name.Text, " !\"#$%&'()*+,-./0123456789:;<=>?@ABCDEFGHIJKLMNOPQRSTUVWXYZ[\\]^_`abcdefghijklmnopqrstuvwxyz{|}~", 256},
	{"Interface", name.Interface, "ABCDEFGHIJKLMNOPQRSTUVWXYZabcdefghijklmnopqrstuvwxyz0123456789_.+-", 15},
	{"Link", name.Link, "ABCDEFGHIJKLMNOPQRSTUVWXYZabcdefghijklmnopqrstuvwxyz0123456789_.:+-@#=%/", 256},
}

// P1.1: every byte, first and last of all, and between others.
func TestBytesOfKinds(t *testing.T) {
	for _, k := range kinds {
		for b := range 256 {
			s := string([]byte{byte(b)})
			want := strings.Contains(k.members, s)
			if got := k.is("A" + s + "A"); got != want {
				t.Errorf("%s(A%qA): got %v, want %v", k.title, s, got, want)
			}
			if k.title == "Link" && s == "/" {
				want = false
			}
			if got := k.is("A" + s); got != want {
				t.Errorf("%s(A%q): got %v, want %v", k.title, s, got, want)
			}
			if k.title == "Key" {
				want = "A" <= s && s <= "Z"
			}
			if got := k.is(s + "A"); got != want {
				t.Errorf("%s(%qA): got %v, want %v", k.title, s, got, want)
			}
		}
	}
}

// P1.1: the greatest lengths; only a text may be empty.
func TestLengthsOfKinds(t *testing.T) {
	for _, k := range kinds {
		if got, want := k.is(""), k.title == "Text"; got != want {
			t.Errorf("%s of nothing: got %v, want %v", k.title, got, want)
		}
		for _, n := range []int{1, 2, 14, 15, 16, 17, 31, 32, 33, 34, 255, 256, 257, 1000} {
			if got, want := k.is(strings.Repeat("A", n)), n <= k.longest; got != want {
				t.Errorf("%s of %d bytes: got %v, want %v", k.title, n, got, want)
			}
		}
	}
}

// P1.1: names that directories have, and components of links.
func TestDotsAndComponents(t *testing.T) {
	for _, c := range []struct {
		s                string
		valid, link, net bool
	}{
		{".", false, false, false},
		{"..", false, false, false},
		{"...", true, true, true},
		{".a", true, true, true},
		{"a..", true, true, true},
		{"a/b/c", false, true, false},
		{"a/...", false, true, false},
		{"/", false, false, false},
		{"/a", false, false, false},
		{"a/", false, false, false},
		{"a//b", false, false, false},
		{"./a", false, false, false},
		{"a/./b", false, false, false},
		{"a/.", false, false, false},
		{"../a", false, false, false},
		{"a/../b", false, false, false},
		{"a/..", false, false, false},
		{"a/b!c", false, false, false},
		{"cciss!c0d0", true, false, false},
		{"eth0:1", true, true, false},
		{"a\x00", false, false, false},
		{"é", false, false, false},
	} {
		if got := name.Valid(c.s); got != c.valid {
			t.Errorf("Valid(%q): got %v, want %v", c.s, got, c.valid)
		}
		if got := name.Link(c.s); got != c.link {
			t.Errorf("Link(%q): got %v, want %v", c.s, got, c.link)
		}
		if got := name.Interface(c.s); got != c.net {
			t.Errorf("Interface(%q): got %v, want %v", c.s, got, c.net)
		}
	}
}

// P1.1: a component of a link name may be longer than a name, and a key begins with a capital letter.
func TestKindsDiffer(t *testing.T) {
	if s := strings.Repeat("a", 100) + "/" + strings.Repeat("b", 155); !name.Link(s) || name.Link(s+"b") {
		t.Error("Link of 256 and 257 bytes in two components")
	}
	for s, want := range map[string]bool{"A": true, "Z9_": true, "A__": true, "_A": false, "9A": false, "a": false, "Aa": false, "A.": false} {
		if got := name.Key(s); got != want {
			t.Errorf("Key(%q): got %v, want %v", s, got, want)
		}
	}
}
