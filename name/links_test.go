package name_test

import (
	"strings"
	"testing"

	"coldplug/name"
)

// P1.4
func TestNumber(t *testing.T) {
	long := strings.Repeat("0123456789", 1000)
	for s, want := range map[string]string{
		"sda12":          "12",
		"sda":            "",
		"7":              "7",
		"":               "",
		"1a02":           "02",
		"12a":            "",
		"a/0":            "0",
		"a:9":            "9",
		"x 00":           "00",
		"-5":             "5",
		"1\xff":          "",
		"\xff1":          "1",
		long:             long,
		"!" + long:       long,
		long + "a" + "1": "1",
	} {
		if got := name.Number(s); got != want {
			t.Errorf("Number(%q): got %q, want %q", s, got, want)
		}
	}
}

// P1.5
func TestClean(t *testing.T) {
	for s, want := range map[string]string{
		"disk//by id/./x": "disk/by_id/x",
		"a":               "a",
		"/a/":             "a",
		"./a/.":           "a",
		"a///b":           "a/b",
		"a!b":             "a_b",
		"a!\xff":          "a__",
		"é":               "__",
		"\x00\n":          "__",
		" ":               "_",
		"@#=%/.../a":      "@#=%/.../a",
		"..a/b..":         "..a/b..",
		". /.":            "._",
		".!":              "._",
		"?/*/$":           "_/_/_",
		"a\\b":            "a_b",
	} {
		if got, ok := name.Clean(s); got != want || !ok {
			t.Errorf("Clean(%q): got %q and %v, want %q", s, got, ok, want)
		}
	}
}

// P1.5: nothing remains, or a component is "..".
func TestCleanRefuses(t *testing.T) {
	for _, s := range []string{
		"", "/", "//", ".", "./", "././.", "..", "../", "/..", "a/..", "../a", "a/../b", "a/./..", "!/..", "a//..//",
		strings.Repeat("a", 300) + "/..",
	} {
		if got, ok := name.Clean(s); got != "" || ok {
			t.Errorf("Clean(%q): got %q and %v, want none", s, got, ok)
		}
	}
}

// P1.5: the length of the result counts, not the one of the text.
func TestCleanLimit(t *testing.T) {
	most := strings.Repeat("a", 256)
	pair := strings.Repeat("a", 100) + "/" + strings.Repeat("b", 155)
	for _, c := range []struct {
		s, want string
		ok      bool
	}{
		{most, most, true},
		{most + "a", "", false},
		{"/./" + most + "//./", most, true},
		{most + "/a", "", false},
		{"a/" + most, "", false},
		{pair, pair, true},
		{pair + "b", "", false},
		{strings.ReplaceAll(pair, "/", "/././//"), pair, true},
		{strings.Repeat("!", 256), strings.Repeat("_", 256), true},
		{strings.Repeat("!", 257), "", false},
		{strings.Repeat("./", 10000) + "a" + strings.Repeat("/", 10000), "a", true},
		{strings.Repeat("a/", 128) + "a", "", false},
		{strings.Repeat("a/", 128), strings.Repeat("a/", 127) + "a", true},
	} {
		if got, ok := name.Clean(c.s); got != c.want || ok != c.ok {
			t.Errorf("Clean(%q): got %q and %v, want %q and %v", c.s, got, ok, c.want, c.ok)
		}
	}
}

// P1.5 and the chapter's consequences: every byte alone in a component; results are link names, and stay as they are.
func TestCleanMakesLinks(t *testing.T) {
	for b := range 256 {
		s := string([]byte{'a', byte(b), 'c'})
		want := s
		if !name.Link(s) {
			want = "a_c"
		}
		got, ok := name.Clean(s)
		if got != want || !ok {
			t.Errorf("Clean(%q): got %q and %v, want %q", s, got, ok, want)
		}
		if again, ok := name.Clean(got); again != got || !ok || !name.Link(got) {
			t.Errorf("Clean(%q): got %q and %v, want a link name that stays", got, again, ok)
		}
	}
	for _, s := range shortTexts("ab./!", 6) {
		got, ok := name.Clean(s)
		if ok != name.Link(got) || !ok && got != "" {
			t.Errorf("Clean(%q): got %q and %v", s, got, ok)
		}
		if name.Link(s) && got != s {
			t.Errorf("Clean(%q) of a link name: got %q", s, got)
		}
	}
}

// shortTexts returns all texts of at most this length that consist of these bytes.
func shortTexts(members string, length int) []string {
	texts := []string{""}
	for start := 0; length > 0; length-- {
		end := len(texts)
		for _, s := range texts[start:end] {
			for i := range len(members) {
				texts = append(texts, s+members[i:i+1])
			}
		}
		start = end
	}
	return texts
}

// P1.6
func TestBeneath(t *testing.T) {
	for _, c := range []struct {
		a, b string
		want bool
	}{
		{"disk", "disk/a", true},
		{"disk", "disk/", true},
		{"disk", "disks", false},
		{"disk", "disk", false},
		{"disk", "dis", false},
		{"disk", "desk/a", false},
		{"disk/a", "disk", false},
		{"disk", "", false},
		{"", "", false},
		{"", "/", true},
		{"", "/a", true},
		{"", "a", false},
		{"a/", "a/b", false},
		{"a/", "a//", true},
		{"\xff", "\xff/\x00", true},
	} {
		if got := name.Beneath(c.a, c.b); got != c.want {
			t.Errorf("Beneath(%q, %q): got %v, want %v", c.a, c.b, got, c.want)
		}
	}
	for _, a := range shortTexts("a/", 4) {
		for _, b := range shortTexts("a/", 5) {
			if got, want := name.Beneath(a, b), strings.HasPrefix(b, a+"/"); got != want {
				t.Errorf("Beneath(%q, %q): got %v, want %v", a, b, got, want)
			}
		}
	}
}
