package content_test

import (
	"reflect"
	"strings"
	"testing"

	"coldplug/api"
	"coldplug/content"
)

func none() api.Content { return api.Content{} }

func file(id, label string) api.Content {
	return api.Content{Kind: api.ContentFile, ID: id, Label: label}
}

func raid(id string, slot, total, least int, inner ...api.Content) api.Content {
	return api.Content{Kind: api.ContentRaid, ID: id, Slot: slot, Total: total, Least: least, Inner: inner}
}

func crypt(id string, inner ...api.Content) api.Content {
	return api.Content{Kind: api.ContentCrypt, ID: id, Inner: inner}
}

func group(id string, slot, total int, inner ...api.Content) api.Content {
	return api.Content{Kind: api.ContentGroup, ID: id, Slot: slot, Total: total, Inner: inner}
}

func table(id string, inner ...api.Content) api.Content {
	return api.Content{Kind: api.ContentTable, ID: id, Inner: inner}
}

// nested returns crypt layers around a content.
func nested(layers int, c api.Content) api.Content {
	for range layers {
		c = crypt("c", c)
	}
	return c
}

// nestedText returns the text of crypt layers around the content with a text.
func nestedText(layers int, s string) string {
	return strings.Repeat("crypt:c(", layers) + s + strings.Repeat(")", layers)
}

// P7.1
func TestTexts(t *testing.T) {
	long := strings.Repeat("x", 16)
	for s, c := range map[string]api.Content{
		"":                                      none(),
		"fs:u:":                                 file("u", ""),
		"fs:.:..":                               file(".", ".."),
		"fs:-:_":                                file("-", "_"),
		"fs:fs:fs":                              file("fs", "fs"),
		"fs:" + long + ":" + long:               file(long, long),
		"raid:r1:1/2/1(fs:u3:data)":             raid("r1", 1, 2, 1, file("u3", "data")),
		"raid:r:1/1/1()":                        raid("r", 1, 1, 1, none()),
		"raid:r:2/3/3()":                        raid("r", 2, 3, 3, none()),
		"raid:" + long + ":9/16/10()":           raid(long, 9, 16, 10, none()),
		"raid:01:16/16/16()":                    raid("01", 16, 16, 16, none()),
		"crypt:c()":                             crypt("c", none()),
		"crypt:crypt(fs:a:)":                    crypt("crypt", file("a", "")),
		"pv:g:1/1()":                            group("g", 1, 1, none()),
		"pv:g:2/16(,)":                          group("g", 2, 16, none(), none()),
		"pv:g:2/3(fs:a:,,crypt:c(),table:t(,))": group("g", 2, 3, file("a", ""), none(), crypt("c", none()), table("t", none(), none())),
		"table:t()":                             table("t", none()),
		"table:t(,fs:a:)":                       table("t", none(), file("a", "")),
		"table:t(fs:a:,)":                       table("t", file("a", ""), none()),
		"table:t(fs:a:b,fs:a:b)":                table("t", file("a", "b"), file("a", "b")),
		"table:t(" + strings.Repeat(",", 15) + ")":  table("t", make([]api.Content, 16)...),
		"pv:g:1/1(" + strings.Repeat(",", 15) + ")": group("g", 1, 1, make([]api.Content, 16)...),
		nestedText(6, ""):           nested(6, none()),
		nestedText(5, "fs:a:"):      nested(5, file("a", "")),
		nestedText(5, "table:t(,)"): nested(5, table("t", none(), none())),
	} {
		if got, err := content.Parse(s); !reflect.DeepEqual(got, c) || err != api.OK {
			t.Errorf("Parse(%q): got %+v and %d, want %+v", s, got, err, c)
		}
		if got, err := content.Format(c); got != s || err != api.OK {
			t.Errorf("Format(%+v): got %q and %d, want %q", c, got, err, s)
		}
		if err := content.Check(c); err != api.OK {
			t.Errorf("Check(%+v): got %d", c, err)
		}
	}
}

// P7.1: what is the text of no content.
func TestParseRefuses(t *testing.T) {
	long := strings.Repeat("x", 17)
	for _, s := range []string{
		// words and IDs
		" ", "fs", "fs:", ":", "()", "(", ")", ",", ",fs:a:", "fs:a:,", "fs:a:,fs:b:", "x:a", "x:a()", "FS:a:", "Crypt:c()",
		"fsx:a:", "f:a:", " fs:a:", "fs:a: ", "fs:a:\n", "fs :a:", "none", "none:", "0", "raidx:r:1/1/1()", "tables:t()",
		"fs::", "fs::a", "fs:a", "fs:a:b:", "fs:a:b:c", "fs:a b:", "fs:a:b c", "fs:a:(", "fs:a:()", "fs:a/b:", "fs:é:", "fs:a\x00:",
		"fs:" + long + ":", "fs:a:" + long, "crypt:" + long + "()", "raid:" + long + ":1/1/1()", "pv:" + long + ":1/1()", "table:" + long + "()",
		"crypt:()", "crypt()", "table:()", "table()", "raid::1/1/1()", "raid:1/1/1()", "pv::1/1()", "pv:1/1()", "crypt:c:()", "table:t:()",
		// parentheses
		"crypt:c", "crypt:c(", "crypt:c)", "crypt:c())", "crypt:c(()", "crypt:c(())", "crypt:c()()", "crypt:c()x", "crypt:c(x)", "crypt:c(,)",
		"crypt:c(fs:a:", "crypt:c(fs:a:,fs:b:)", "crypt:c[]", "crypt:c( )", "raid:r:1/1/1", "raid:r:1/1/1(,)", "raid:r:1/1/1(", "pv:g:1/1", "pv:g:1/1(",
		"table:t", "table:t(", "table:t(,", "table:t(fs:a:;fs:b:)", "table:t(fs:a:)fs:b:", "table:t((),)", "table:t(crypt:c)",
		"table:t(" + strings.Repeat(",", 16) + ")", "pv:g:1/1(" + strings.Repeat(",", 16) + ")",
		// numbers
		"raid:r:1/2()", "raid:r:1()", "raid:r()", "raid:r:1/2/1/1()", "raid:r::1/2/1()", "raid:r:1:2:1()", "pv:g:1()", "pv:g()", "pv:g:1/2/1()",
		"raid:r:/2/1()", "raid:r:1//1()", "raid:r:1/2/()", "pv:g:/1()", "pv:g:1/()", "pv:g:/()",
		"raid:r:0/2/1()", "raid:r:3/2/1()", "raid:r:1/17/1()", "raid:r:17/17/1()", "raid:r:1/0/1()", "raid:r:1/2/0()", "raid:r:1/2/3()",
		"raid:r:01/2/1()", "raid:r:1/02/1()", "raid:r:1/2/01()", "raid:r:+1/2/1()", "raid:r:-1/2/1()", "raid:r:1/-2/1()", "raid:r:1/2/-1()", "raid:r:-0/1/1()",
		"raid:r:1_0/16/1()", "raid:r:0x1/2/1()", "raid:r:1.0/2/1()", "raid:r: 1/2/1()", "raid:r:1 /2/1()", "raid:r:a/2/1()", "raid:r:1e0/2/1()",
		"pv:g:0/1()", "pv:g:2/1()", "pv:g:1/17()", "pv:g:17/17()", "pv:g:0/0()", "pv:g:01/1()", "pv:g:1/01()", "pv:g:1/+1()", "pv:g:-1/-1()",
		// numbers that are 1 if they lose their first bits
		"pv:g:4294967297/4294967297()", "pv:g:18446744073709551617/1()", "pv:g:1/18446744073709551617()",
		"raid:r:1/1/18446744073709551617()", "raid:r:1/1/" + strings.Repeat("9", 200) + "()",
		// depth
		nestedText(7, ""), nestedText(6, "fs:a:"), nestedText(5, "table:t(,fs:a:)"), nestedText(28, ""),
	} {
		if got, err := content.Parse(s); !reflect.DeepEqual(got, none()) || err != api.ErrContentForm {
			t.Errorf("Parse(%q): got %+v and %d, want ErrContentForm", s, got, err)
		}
	}
}

// P7.1: every byte in IDs, labels, and at the borders.
func TestBytes(t *testing.T) {
	members := "ABCDEFGHIJKLMNOPQRSTUVWXYZabcdefghijklmnopqrstuvwxyz0123456789_.-"
	for b := range 256 {
		s := string([]byte{byte(b)})
		is := strings.Contains(members, s)
		for text, c := range map[string]api.Content{
			"fs:" + s + ":":                   file(s, ""),
			"fs:a:" + s:                       file("a", s),
			"fs:a" + s + "a:":                 file("a"+s+"a", ""),
			"fs:a:a" + s + "a":                file("a", "a"+s+"a"),
			"crypt:" + s + "()":               crypt(s, none()),
			"raid:" + s + "a:1/1/1()":         raid(s+"a", 1, 1, 1, none()),
			"pv:a" + s + ":1/1()":             group("a"+s, 1, 1, none()),
			"table:t(fs:a:" + s + ",fs:b:)":   table("t", file("a", s), file("b", "")),
			"table:t(crypt:" + s + s + "(),)": table("t", crypt(s+s, none()), none()),
		} {
			want, err := c, api.OK
			if !is {
				want, err = none(), api.ErrContentForm
			}
			// A comma, and a parenthesis, ends a label; what stands behind it makes these texts wrong, but for one.
			if s == "," && strings.HasPrefix(text, "table:t(fs:") {
				want, err = table("t", file("a", ""), none(), file("b", "")), api.OK
			}
			if got, e := content.Parse(text); !reflect.DeepEqual(got, want) || e != err {
				t.Errorf("Parse(%q): got %+v and %d, want %+v and %d", text, got, e, want, err)
			}
			if got := content.Check(c); (got == api.OK) != is {
				t.Errorf("Check(%+v): got %d", c, got)
			}
		}
		for _, text := range []string{s, s + "crypt:c()", "crypt:c()" + s, "crypt:c" + s + ")", "crypt:c(" + s, "raid:r:1" + s + "1/1()", "raid:r:1/1" + s + "1()", "crypt" + s + "c()"} {
			right := text == "crypt:c()" || text == "raid:r:1/1/1()"
			if _, err := content.Parse(text); (err == api.OK) != right {
				t.Errorf("Parse(%q): got %d", text, err)
			}
		}
	}
}

// P7.1: every number as Slot, Total and Least, in contents and texts.
func TestNumbers(t *testing.T) {
	for slot := -1; slot <= 18; slot++ {
		for total := -1; total <= 18; total++ {
			for least := -1; least <= 18; least++ {
				is := 1 <= total && total <= 16 && 1 <= slot && slot <= total
				for _, c := range []api.Content{raid("r", slot, total, least, none()), group("g", slot, total, none())} {
					right := is && (c.Kind == api.ContentGroup || 1 <= least && least <= total)
					text := write(c)
					if got := content.Check(c); (got == api.OK) != right {
						t.Fatalf("Check(%+v): got %d", c, got)
					}
					if _, err := content.Parse(text); (err == api.OK) != right {
						t.Fatalf("Parse(%q): got %d", text, err)
					}
					if got, err := content.Format(c); right && got != text || (err == api.OK) != right {
						t.Fatalf("Format(%+v): got %q and %d", c, got, err)
					}
				}
			}
		}
	}
}

// ofLength returns a table whose text has so many bytes, from 251 to 267.
func ofLength(n int) api.Content {
	id := strings.Repeat("i", 16)
	long := file(id, id)
	return table("t", long, long, long, long, long, long, file(id, strings.Repeat("l", n-251)))
}

// P7.1: the greatest length of a text, and the order of errors.
func TestGreatestLength(t *testing.T) {
	for n := 251; n <= 267; n++ {
		c := ofLength(n)
		s := write(c)
		if len(s) != n {
			t.Fatalf("a text of %d bytes instead of %d", len(s), n)
		}
		want, text, parsed := api.OK, s, c
		if n > 256 {
			want, text, parsed = api.ErrContentLimit, "", none()
		}
		if got, err := content.Format(c); got != text || err != want {
			t.Errorf("Format of %d bytes: got %q and %d", n, got, err)
		}
		if got, err := content.Parse(s); !reflect.DeepEqual(got, parsed) || err != want {
			t.Errorf("Parse of %d bytes: got %+v and %d", n, got, err)
		}
		if got := content.Check(c); got != api.OK {
			t.Errorf("Check of a content with a text of %d bytes: got %d", n, got)
		}
		// It is neither valid nor short: for Parse the length counts first, and for Format the fields.
		c.Inner[0].ID = strings.Repeat("!", 16)
		if want == api.OK {
			want = api.ErrContentForm
		}
		if got, err := content.Parse(write(c)); !reflect.DeepEqual(got, none()) || err != want {
			t.Errorf("Parse of %d wrong bytes: got %+v and %d", n, got, err)
		}
		if got, err := content.Format(c); got != "" || err != api.ErrContentForm {
			t.Errorf("Format of a wrong content with a text of %d bytes: got %q and %d", n, got, err)
		}
	}
}

// P7.1: long texts that are none of a content.
func TestLongWrongTexts(t *testing.T) {
	for n, want := range map[int]api.Errno{255: api.ErrContentForm, 256: api.ErrContentForm, 257: api.ErrContentLimit, 100000: api.ErrContentLimit} {
		for _, piece := range []string{"(", ",", "a", "\x00", "crypt:c("} {
			s := strings.Repeat(piece, n)[:n]
			if got, err := content.Parse(s); !reflect.DeepEqual(got, none()) || err != want {
				t.Errorf("Parse of %d bytes %q: got %+v and %d, want %d", n, piece, got, err, want)
			}
		}
	}
}
