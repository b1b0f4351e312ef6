package substitute_test

import (
	"slices"
	"strings"
	"testing"

	"coldplug/api"
	"coldplug/substitute"
)

// textIs checks the text of a template.
func textIs(t *testing.T, want, s string, v api.Values) {
	t.Helper()
	if got, err := substitute.Expand(s, v); got != want || err != api.OK {
		t.Errorf("Expand(%q): got %q and %d, want %q", s, got, err, want)
	}
}

// P9.3: each kind, written in both forms.
func TestExpand(t *testing.T) {
	for s, want := range map[string]string{
		"":                 "",
		"a b{~":            "a b{~",
		"$$k%%k$$":         "$k%k$",
		"$kernel":          "sda12",
		"%k":               "sda12",
		"$number":          "12",
		"%n":               "12",
		"$devpath":         "/p/sda12",
		"%p":               "/p/sda12",
		"$id":              "usb1",
		"%b":               "usb1",
		"$driver":          "sd",
		"%d":               "sd",
		"$attr{x}":         "1",
		"%s{x}":            "1",
		"$env{K}":          "7",
		"%E{K}":            "7",
		"$result":          "a  b c ",
		"%c":               "a  b c ",
		"$result{2}":       "b",
		"%c{2}":            "b",
		"$result{2+}":      "b c",
		"%c{2+}":           "b c",
		"$parent":          "sda",
		"%P":               "sda",
		"$name":            "given",
		"disk/$kernel-%n":  "disk/sda12-12",
		"%kx$id/%%%n{1}":   "sda12xusb1/%12{1}",
		"$result{9}$id":    "usb1",
		"[%c{1}|%c{3+}]$$": "[a|c]$",
	} {
		textIs(t, want, s, sample())
	}
	for spelling, kind := range kindsWritten {
		if kind == api.PieceAttr || kind == api.PieceEnv {
			spelling += "{K}"
		}
		textIs(t, "", spelling, api.Values{})
	}
}

// The chapter's consequences: a template without "$" and "%" expands to itself.
func TestTextsExpandToThemselves(t *testing.T) {
	for b := byte(' '); b <= '~'; b++ {
		if s := "kernel{" + string(b) + "}"; b != '$' && b != '%' {
			textIs(t, s, s, sample())
		}
	}
	full := strings.Repeat("kernel {", 32)
	textIs(t, full, full, sample())
}

// P9.3: the chapter's examples.
func TestExamples(t *testing.T) {
	v := api.Values{Kernel: "sda12", Env: []api.Attr{{Name: "ID", Value: "7"}}, Result: "a  b c"}
	textIs(t, "disk/sda12-12", "disk/$kernel-%n", v)
	textIs(t, "7%x", "$env{ID}$env{NO}%%x", v)
	textIs(t, "b, b c, ", "$result{2}, %c{2+}, $result{9}", v)
}

// P9.3: what stands for a piece is not read as a template again.
func TestValuesAreNoTemplates(t *testing.T) {
	v := api.Values{Kernel: "$name", Name: "%k", Result: "$$ %n", Env: []api.Attr{{Name: "K", Value: "$env{K}"}}}
	textIs(t, "$name%k$$ %n%n$env{K}", "$kernel$name$result%c{2}$env{K}", v)
}

// P9.3: the digits at the end of Kernel.
func TestNumbers(t *testing.T) {
	for kernel, want := range map[string]string{"": "", "sda": "", "7": "7", "sda12": "12", "a1b02": "02", "eth0:": "", "é9": "9"} {
		textIs(t, want, "$number", api.Values{Kernel: kernel})
		textIs(t, want+kernel, "%n%k", api.Values{Kernel: kernel})
	}
}

// P9.3: Attrs come ahead of Above, the first element with a name counts, and lists need not ascend.
func TestAttributes(t *testing.T) {
	v := api.Values{
		Attrs: []api.Attr{{Name: "z", Value: "1"}, {Name: "a", Value: "2"}, {Name: "z", Value: "3"}, {Name: "empty"}, {Name: "a"}},
		Above: []api.Attr{{Name: "y"}, {Name: "z", Value: "4"}, {Name: "b", Value: "5"}, {Name: "b", Value: "6"}, {Name: "empty", Value: "7"}, {Name: "y", Value: "8"}},
		Env:   []api.Attr{{Name: "Z", Value: "9"}, {Name: "B"}, {Name: "A", Value: "10"}, {Name: "B", Value: "11"}, {Name: "Z", Value: "12"}, {Name: "c", Value: "13"}},
	}
	for s, want := range map[string]string{
		"$attr{z}": "1", "$attr{a}": "2", "$attr{b}": "5", "$attr{empty}": "", "$attr{y}": "", "$attr{c}": "", "$attr{A}": "", "$attr{Z}": "", "$attr{zz}": "", "$attr{empt}": "",
		"$env{Z}": "9", "$env{A}": "10", "$env{B}": "", "$env{C}": "", "$env{ZZ}": "",
	} {
		textIs(t, want, s, v)
		textIs(t, "<"+want+">", "<"+s+">", v)
	}
	// An empty list above, or an empty one of the device.
	textIs(t, "4", "$attr{z}", api.Values{Above: v.Above})
	textIs(t, "1", "$attr{z}", api.Values{Attrs: v.Attrs, Above: []api.Attr{}})
	textIs(t, "", "$attr{K}", api.Values{Env: []api.Attr{{Name: "K", Value: "1"}}})
	textIs(t, "", "$env{K}", api.Values{Attrs: []api.Attr{{Name: "K", Value: "1"}}, Above: []api.Attr{{Name: "K", Value: "1"}}})
}

// P9.3: words are what spaces divide, and no other bytes do.
func TestWords(t *testing.T) {
	for result, want := range map[string][]string{
		"":               {"", "", "", "", "", ""},
		"   ":            {"", "", "", "", "", ""},
		"a":              {"a", "a", "", "", "", ""},
		" a ":            {"a", "a", "", "", "", ""},
		"a b c":          {"a", "a b c", "b", "b c", "c", "c"},
		"  a   b  c  ":   {"a", "a b c", "b", "b c", "c", "c"},
		"a\tb\nc\u00a0d": {"a\tb\nc\u00a0d", "a\tb\nc\u00a0d", "", "", "", ""},
		"\t \n":          {"\t", "\t \n", "\n", "\n", "", ""},
		"$a %b {c}":      {"$a", "$a %b {c}", "%b", "%b {c}", "{c}", "{c}"},
		"aa\x00 \xff b":  {"aa\x00", "aa\x00 \xff b", "\xff", "\xff b", "b", "b"},
	} {
		for i, s := range []string{"{1}", "{1+}", "{2}", "{2+}", "{3}", "{3+}"} {
			textIs(t, want[i], "$result"+s, api.Values{Result: result})
			textIs(t, "x"+want[i]+"x", "x%c"+s+"x", api.Values{Result: result})
		}
		textIs(t, result, "$result", api.Values{Result: result})
		textIs(t, "", "$result{4}%c{99+}", api.Values{Result: result})
	}
	// Numbers of two digits, up to the greatest one.
	var all []string
	for n := range 120 {
		all = append(all, string([]byte{'a' + byte(n/20), 'A' + byte(n%20)}))
	}
	v := api.Values{Result: " " + strings.Join(all, "  ")}
	textIs(t, all[9]+all[10]+all[97]+all[98], "$result{10}$result{11}%c{98}%c{99}", v)
	textIs(t, strings.Join(all[98:], " "), "$result{99+}", v)
	textIs(t, strings.Join(all[90:], " "), "%c{91+}", v)
}

// P9.3: the text is cut after MaxText bytes, wherever in a piece that is.
func TestCut(t *testing.T) {
	long := strings.Repeat("0123456789", 40) + "x77"
	for _, c := range []struct {
		template string
		v        api.Values
		whole    string
	}{
		{"$kernel", api.Values{Kernel: long}, long},
		{"%n", api.Values{Kernel: long[:400]}, long[:400]},
		{"$devpath", api.Values{Devpath: long}, long},
		{"$id", api.Values{ID: long}, long},
		{"$driver", api.Values{Driver: long}, long},
		{"$attr{a}", api.Values{Attrs: []api.Attr{{Name: "a", Value: long}}}, long},
		{"$attr{a}", api.Values{Above: []api.Attr{{Name: "a", Value: long}}}, long},
		{"$env{K}", api.Values{Env: []api.Attr{{Name: "K", Value: long}}}, long},
		{"$result", api.Values{Result: long}, long},
		{"$result{1}", api.Values{Result: "  " + long + " b"}, long},
		{"$result{1+}", api.Values{Result: "  " + long + " b"}, long + " b"},
		{"$parent", api.Values{Parent: long}, long},
		{"$name", api.Values{Name: long}, long},
	} {
		textIs(t, c.whole[:256], c.template, c.v)
		textIs(t, c.whole[:256], c.template+"-$kernel", c.v)
		textIs(t, c.whole[:256], c.template+c.template, c.v)
		textIs(t, "a$"+c.whole[:254], "a$$"+c.template, c.v)
		textIs(t, strings.Repeat("a", 240)+c.whole[:16], strings.Repeat("a", 240)+c.template, c.v)
	}
	for n := 250; n <= 260; n++ {
		v := api.Values{Kernel: strings.Repeat("k", n), Parent: "pq", Result: strings.Repeat("b ", n)}
		textIs(t, cut(v.Kernel+"pq$x"), "%k$parent$$x", v)
		textIs(t, cut("$"+v.Kernel+"pq"), "$$%k%P", v)
		textIs(t, cut(v.Result), "$result{1+}", v)
		textIs(t, cut(v.Result), "%c", v)
	}
}

// cut returns what is left of a text that is too long.
func cut(s string) string { return s[:min(len(s), 256)] }

// P9.3: many words, of which the text ends at each of its places, and as many as there have to be.
func TestCutOfWords(t *testing.T) {
	for _, unit := range []string{"b", "bc", "bcd", strings.Repeat("e", 100)} {
		for n := range 300 {
			result := strings.Repeat("  "+unit, n)
			want := strings.Join(slices.Repeat([]string{unit}, n), " ")
			textIs(t, cut(want), "$result{1+}", api.Values{Result: result})
			textIs(t, cut("x"+want), "x%c{2+}", api.Values{Result: "first" + result})
		}
	}
}

// P9.3: any values are allowed: long ones, and those with bytes that no text has.
func TestAnyValues(t *testing.T) {
	every := make([]byte, 256)
	for b := range every {
		every[b] = byte(b)
	}
	all := string(every)
	v := api.Values{Kernel: all, Devpath: all, ID: all, Driver: all, Parent: all, Name: all, Result: all,
		Attrs: []api.Attr{{Name: all, Value: all}, {}, {Name: "a", Value: all}}, Env: []api.Attr{{Value: all}, {Name: "K", Value: all}}}
	for _, s := range []string{"$kernel", "$devpath", "$id", "$driver", "$parent", "$name", "$result", "$attr{a}", "$env{K}"} {
		textIs(t, all, s, v)
		textIs(t, "-"+all[:255], "-"+s, v)
	}
	textIs(t, all[:32], "$result{1}", v)
	textIs(t, all[33:], "$result{2}", v)
	// A rune is cut as any bytes are.
	textIs(t, "a"+strings.Repeat("é", 128)[:255], "a$kernel", api.Values{Kernel: strings.Repeat("é", 300)})
	huge := strings.Repeat("word  ", 1<<20)
	template := strings.Repeat("%c{99}", 30) + strings.Repeat("%c{1+}", 10)
	textIs(t, strings.Repeat("word", 30)+strings.Repeat("word ", 28)[:136], template, api.Values{Result: huge})
	textIs(t, "", strings.Repeat("%c{1}", 51), api.Values{Result: strings.Repeat(" ", 1<<20)})
}

// P9.3: the error of Check, in its order, and no text with it.
func TestExpandRefuses(t *testing.T) {
	for _, s := range []string{"$kernels", "%x", "$env{id}", "$result{0}", "$attr", "$kernel$", "%k\n", strings.Repeat("%k", 127) + "$a"} {
		noTemplate(t, api.ErrSubstituteForm, s)
	}
	noTemplate(t, api.ErrSubstituteLimit, strings.Repeat("%k", 128)+"$")
}

// R4: lists of values stay as they are, their spare capacity, too.
func TestExpandLeavesValues(t *testing.T) {
	room := sample()
	attrs, above, env := slices.Clone(room.Attrs), slices.Clone(room.Above), slices.Clone(room.Env)
	v := room
	v.Attrs, v.Above, v.Env = room.Attrs[:2], room.Above[:1], room.Env[:1]
	textIs(t, "17a  b c b c", "$attr{x}$attr{y}$env{K}$result%c{2+}", v)
	if !slices.Equal(room.Attrs, attrs) || !slices.Equal(room.Above, above) || !slices.Equal(room.Env, env) {
		t.Errorf("the memory of an argument became %+v", room)
	}
}
