package lexer_test

import (
	"slices"
	"strings"
	"testing"

	"coldplug/api"
	"coldplug/lexer"
)

// linesAre checks the lines of a text.
func linesAre(t *testing.T, text string, want ...api.Line) {
	t.Helper()
	if got := lexer.Lines(text); !slices.Equal(got, want) {
		t.Errorf("Lines(%q): got %+v, want %+v", text, got, want)
	}
}

// P8.1: physical lines end with a line feed, and with nothing else.
func TestPhysicalLines(t *testing.T) {
	linesAre(t, "a\\\n b\n# c\n\nd", api.Line{Number: 1, Text: "a b"}, api.Line{Number: 5, Text: "d"})
	linesAre(t, "")
	linesAre(t, "\n")
	linesAre(t, "\n\n\n")
	linesAre(t, "a", api.Line{Number: 1, Text: "a"})
	linesAre(t, "a\n", api.Line{Number: 1, Text: "a"})
	linesAre(t, "a\n\n", api.Line{Number: 1, Text: "a"})
	linesAre(t, "\n\na", api.Line{Number: 3, Text: "a"})
	linesAre(t, "a\nb\n\nc\n", api.Line{Number: 1, Text: "a"}, api.Line{Number: 2, Text: "b"}, api.Line{Number: 4, Text: "c"})
	linesAre(t, "a\r\nb\rc\vd\u2028e\x00f", api.Line{Number: 1, Text: "a\r"}, api.Line{Number: 2, Text: "b\rc\vd\u2028e\x00f"})
	linesAre(t, " a \n\tb\t", api.Line{Number: 1, Text: " a "}, api.Line{Number: 2, Text: "\tb\t"})
}

// P8.1: continued lines.
func TestContinuedLines(t *testing.T) {
	ab := func(number int) api.Line { return api.Line{Number: number, Text: "ab"} }
	linesAre(t, "a\\\nb", ab(1))
	linesAre(t, "a\\\nb\\", ab(1))
	linesAre(t, "a\\\nb\\\n", ab(1))
	linesAre(t, "a\\\nb\\\n\n", ab(1))
	linesAre(t, "a\\\nb\\\n\\\n\\", ab(1))
	linesAre(t, "\\\n\\\na\\\n\\\nb\nab", ab(1), ab(6))
	linesAre(t, "\n\\\nab\n\\\n\nab", ab(2), ab(6))
	linesAre(t, "a\\\n\nab", api.Line{Number: 1, Text: "a"}, ab(3))
	linesAre(t, "\\")
	linesAre(t, "\\\n")
	linesAre(t, "\\\n\\")
	linesAre(t, "\\\n\\\n\n")
	// Neither is a "\" elsewhere in a line, nor one that another byte follows.
	linesAre(t, "\\a\nb", api.Line{Number: 1, Text: "\\a"}, api.Line{Number: 2, Text: "b"})
	linesAre(t, "a\\ \nb", api.Line{Number: 1, Text: "a\\ "}, api.Line{Number: 2, Text: "b"})
	linesAre(t, "a\\\r\nb", api.Line{Number: 1, Text: "a\\\r"}, api.Line{Number: 2, Text: "b"})
	// One "\" goes for each physical line; what is ahead of it stays, and does not continue the line again.
	linesAre(t, "a\\\\\nb", api.Line{Number: 1, Text: "a\\b"})
	linesAre(t, "a\\\\\n\nb", api.Line{Number: 1, Text: "a\\"}, api.Line{Number: 3, Text: "b"})
	linesAre(t, "a\\\\", api.Line{Number: 1, Text: "a\\"})
	linesAre(t, "\\\\\\\n\\\\", api.Line{Number: 1, Text: "\\\\\\"})
}

// P8.1: blank lines, which are known only when all of the logical line is there.
func TestBlankLines(t *testing.T) {
	d := func(number int) api.Line { return api.Line{Number: number, Text: "d"} }
	for _, s := range []string{"", " ", "\t", " \t \t", "#", "#a", "##", " #", "\t#a", " \t # \"", "#\r", "#\x00\xff"} {
		linesAre(t, s)
		linesAre(t, s+"\nd", d(2))
		linesAre(t, "d\n"+s+"\nd", d(1), d(3))
		linesAre(t, s+"\\\n \nd", d(3))
		linesAre(t, " \\\n"+s+"\nd", d(3))
		linesAre(t, "\\\n\\\n"+s+"\\\n\nd", d(5))
	}
	// A comment goes on with the lines that continue it.
	linesAre(t, "# a\\\nb\\\nc\nd", d(4))
	linesAre(t, " \\\n#\\\nb\nd", d(4))
	linesAre(t, "#a\\\\\nb\nd", d(3))
	for _, s := range []string{"a#", "\r", "\v", "\x00", "\xff", "\u00a0", ",", "\\ ", "\"#"} {
		for _, space := range []string{"", " ", "\t "} {
			linesAre(t, space+s, api.Line{Number: 1, Text: space + s})
			linesAre(t, space+"\\\n"+s+"\\\n#", api.Line{Number: 1, Text: space + s + "#"})
		}
	}
}

// P8.1: every byte alone in a line, at its end, and continued.
func TestEveryByteInLines(t *testing.T) {
	for b := range 256 {
		s := string([]byte{byte(b)})
		if s == "\n" || s == "\\" {
			continue
		}
		line := []api.Line{{Number: 2, Text: s}}
		if strings.Contains(" \t#", s) {
			line = nil
		}
		linesAre(t, "\n"+s, line...)
		linesAre(t, "\n"+s+"\n", line...)
		linesAre(t, "\n\\\n"+s+"\\\n", line...)
		linesAre(t, "x"+s+"\\\n"+s, api.Line{Number: 1, Text: "x" + s + s})
	}
}

// P8.1, R1: there is no limit for lines, and long ones end in good time.
func TestLongTexts(t *testing.T) {
	const many = 1 << 20
	linesAre(t, strings.Repeat("a\\\n", many)+"b", api.Line{Number: 1, Text: strings.Repeat("a", many) + "b"})
	linesAre(t, strings.Repeat("\\\n", many)+"b", api.Line{Number: 1, Text: "b"})
	linesAre(t, strings.Repeat("\n", many)+"b", api.Line{Number: many + 1, Text: "b"})
	linesAre(t, strings.Repeat("\\", many), api.Line{Number: 1, Text: strings.Repeat("\\", many-1)})
	linesAre(t, strings.Repeat(" ", many)+"#"+strings.Repeat("a", many))
	got := lexer.Lines(strings.Repeat("a\n", many))
	if len(got) != many || got[many-1] != (api.Line{Number: many, Text: "a"}) {
		t.Errorf("got %d lines", len(got))
	}
}

// R4: lists share no memory.
func TestLinesAreNew(t *testing.T) {
	const text = "a\nb\\\nc\nd"
	first := lexer.Lines(text)
	for i := range first[:cap(first)] {
		first[:cap(first)][i] = api.Line{Number: -1, Text: "spoilt"}
	}
	linesAre(t, text, api.Line{Number: 1, Text: "a"}, api.Line{Number: 2, Text: "bc"}, api.Line{Number: 4, Text: "d"})
}
