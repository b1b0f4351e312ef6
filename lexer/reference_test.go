package lexer_test

import (
	"math/rand"
	"regexp"
	"slices"
	"strings"
	"testing"

	"coldplug/api"
	"coldplug/lexer"
)

// What the chapter says of tokens and lines, as patterns. A run of "\" in a VALUE takes the byte behind it along, be it a quote or not.
const (
	keyPattern       = `[A-Z]+`
	namePattern      = `[!#-z|~]+`
	opPattern        = `==|!=|=|\+=|-=|:=`
	rawPattern       = `(?:[ !#-\[\]-~]|\\+[ -\[\]-~])*`
	tokenPattern     = `(` + keyPattern + `)(?:\{(` + namePattern + `)\})?(` + opPattern + `)"(` + rawPattern + `)"`
	separatorPattern = `[ \t,]`
)

var (
	keyText   = regexp.MustCompile(`^(?:` + keyPattern + `)$`)
	nameText  = regexp.MustCompile(`^(?:` + namePattern + `)$`)
	opText    = regexp.MustCompile(`^(?:` + opPattern + `)$`)
	valueText = regexp.MustCompile(`^(?:[ -~]*[ -\[\]-~])?$`)
	token     = regexp.MustCompile(tokenPattern)
	line      = regexp.MustCompile(`^` + separatorPattern + `*(?:` + tokenPattern + `(?:` + separatorPattern + `+` + tokenPattern + `)*` + separatorPattern + `*)?$`)
	bytesText = regexp.MustCompile(`^[\t -~]*$`)
	logical   = regexp.MustCompile(`^(?:[^\n]*\\\n)*(?:[^\n]*\n|[^\n]+$)|^(?:[^\n]*\\\n)+$`)
	blank     = regexp.MustCompile(`^[ \t]*(?:#(?s:.*))?$`)
)

// tokensOf returns the tokens of a line and the error.
func tokensOf(s string) ([]api.Token, api.Errno) {
	switch {
	case len(s) > api.MaxLine:
		return nil, api.ErrLexerLimit
	case !bytesText.MatchString(s):
		return nil, api.ErrLexerByte
	case !line.MatchString(s):
		// The fault is at the end of the line if something could be put behind it: for braces and quotes, these texts.
		if line.MatchString(s+`x"`) || line.MatchString(s+`x}=""`) {
			return nil, api.ErrLexerOpen
		}
		return nil, api.ErrLexerForm
	}
	var list []api.Token
	for _, words := range token.FindAllStringSubmatch(s, -1) {
		list = append(list, api.Token{Key: words[1], Name: words[2], Op: words[3], Value: strings.ReplaceAll(words[4], `\"`, `"`)})
	}
	return list, api.OK
}

// lineOf returns the line of tokens and the error.
func lineOf(l []api.Token) (string, api.Errno) {
	var texts []string
	for _, t := range l {
		if !keyText.MatchString(t.Key) || t.Name != "" && !nameText.MatchString(t.Name) || !opText.MatchString(t.Op) || !valueText.MatchString(t.Value) {
			return "", api.ErrLexerForm
		}
		s := t.Key + "{" + t.Name + "}" + t.Op + `"` + strings.ReplaceAll(t.Value, `"`, `\"`) + `"`
		if t.Name == "" {
			s = strings.Replace(s, "{}", "", 1)
		}
		texts = append(texts, s)
	}
	s := strings.Join(texts, ", ")
	if len(s) > api.MaxLine {
		return "", api.ErrLexerLimit
	}
	return s, api.OK
}

// linesOf returns the lines of a text.
func linesOf(text string) []api.Line {
	var list []api.Line
	for number := 1; text != ""; {
		s := logical.FindString(text)
		text = text[len(s):]
		l := api.Line{Number: number, Text: strings.TrimSuffix(strings.ReplaceAll(s, "\\\n", ""), "\n")}
		number += strings.Count(s, "\n")
		if text == "" && !strings.HasSuffix(s, "\n") {
			l.Text = strings.TrimSuffix(l.Text, "\\")
		}
		if !blank.MatchString(l.Text) {
			list = append(list, l)
		}
	}
	return list
}

// tokensAgree checks Tokens against the reference, and the way back; it returns the error.
func tokensAgree(t *testing.T, s string) api.Errno {
	t.Helper()
	want, err := tokensOf(s)
	got, e := lexer.Tokens(s)
	if !slices.Equal(got, want) || e != err || e != api.OK && got != nil {
		t.Fatalf("Tokens(%q): got %+v and %d, want %+v and %d", s, got, e, want, err)
	}
	if err == api.OK {
		formatAgrees(t, got)
	}
	return err
}

// formatAgrees checks Format against the reference, and the way back; it returns the error.
func formatAgrees(t *testing.T, l []api.Token) api.Errno {
	t.Helper()
	want, err := lineOf(l)
	got, e := lexer.Format(l)
	if got != want || e != err {
		t.Fatalf("Format(%+v): got %q and %d, want %q and %d", l, got, e, want, err)
	}
	if err == api.OK {
		if back, e := lexer.Tokens(got); !slices.Equal(back, l) || e != api.OK {
			t.Fatalf("Tokens(%q): got %+v and %d, want %+v", got, back, e, l)
		}
	}
	return err
}

// linesAgree checks Lines against the reference.
func linesAgree(t *testing.T, text string) {
	t.Helper()
	if got, want := lexer.Lines(text), linesOf(text); !slices.Equal(got, want) {
		t.Fatalf("Lines(%q): got %+v, want %+v", text, got, want)
	}
}

// allTexts calls a function for all sequences of at most so many pieces.
func allTexts(pieces []string, most int, call func(s string)) {
	var extend func(s string, most int)
	extend = func(s string, most int) {
		call(s)
		if most == 0 {
			return
		}
		for _, piece := range pieces {
			extend(s+piece, most-1)
		}
	}
	extend("", most)
}

// enough checks that each of the errors was met at least so often.
func enough(t *testing.T, met map[api.Errno]int, least int, errors ...api.Errno) {
	t.Helper()
	for _, err := range errors {
		if met[err] < least {
			t.Errorf("error %d was met %d times only", err, met[err])
		}
	}
}

// madeToken returns a random right token.
func madeToken(random *rand.Rand) api.Token {
	pick := func(members string, most int) string {
		b := make([]byte, random.Intn(most+1))
		for i := range b {
			b[i] = members[random.Intn(len(members))]
		}
		return string(b)
	}
	ops := strings.Split(opsWritten, " ")
	t := api.Token{Key: "A" + pick("ABYZ", 4), Name: pick(`aZ=:",\#`, 4), Op: ops[random.Intn(len(ops))], Value: pick(`a\\""{} ,=#`, 8)}
	t.Name = strings.ReplaceAll(t.Name, `"`, "")
	t.Value = strings.TrimRight(t.Value, `\`)
	return t
}

// P8.1: all short sequences of bytes that matter.
func TestAllShortTexts(t *testing.T) {
	allTexts([]string{"a", "\\", "\n", "#", " "}, 8, func(s string) { linesAgree(t, s) })
	allTexts([]string{"\t", "\\", "\n", "#", "\r", "\x00", "\xff"}, 6, func(s string) { linesAgree(t, s) })
}

// P8.1: long random texts.
func TestRandomTexts(t *testing.T) {
	random := rand.New(rand.NewSource(8))
	for range 2000 {
		b := make([]byte, random.Intn(300))
		for i := range b {
			b[i] = "ab\\\\\n\n# \t"[random.Intn(9)]
		}
		linesAgree(t, string(b))
	}
}

// P8.2: all short sequences of what tokens consist of.
func TestAllShortLines(t *testing.T) {
	met := map[api.Errno]int{}
	for _, c := range []struct {
		pieces []string
		most   int
	}{
		{[]string{"A", "a", "{", "}", "=", "!", `"`, `\`, " "}, 5},
		{[]string{`A`, `="`, `"`, `\`, "\t", "{", "}", ","}, 6},
		{[]string{`A=`, `"`, `\`, "x", " "}, 8},
		{[]string{`A{`, `x`, `}="`, `"`, "\t", "+", "="}, 6},
		{[]string{`A`, `=`, `!`, `+`, `-`, `:`, `"`, `""`}, 5},
		{[]string{`A="b"`, `C{d}+="`, `"`, "\n", "\x7f", "é", " "}, 5},
	} {
		allTexts(c.pieces, c.most, func(s string) { met[tokensAgree(t, s)]++ })
	}
	enough(t, met, 500, api.OK, api.ErrLexerByte, api.ErrLexerForm, api.ErrLexerOpen)
}

// P8.2: lines of random tokens, with bytes put in, left out or changed at every place.
func TestChangedLines(t *testing.T) {
	random := rand.New(rand.NewSource(80))
	met := map[api.Errno]int{}
	for range 300 {
		s := ""
		for range random.Intn(4) {
			one, _ := lineOf([]api.Token{madeToken(random)})
			s += []string{" ", ",", "\t", ", ", ",,\t "}[random.Intn(5)] + one
		}
		if err := tokensAgree(t, s); err != api.OK {
			t.Fatalf("Tokens(%q): got %d", s, err)
		}
		for at := range len(s) + 1 {
			texts := []string{s[:at], s[at:], s[:at] + s[min(at+1, len(s)):], s[:at] + s[at/2:]}
			for _, b := range []string{"A", "a", "{", "}", "=", "!", `"`, `\`, " ", "\t", ",", "\x7f"} {
				texts = append(texts, s[:at]+b+s[at:], s[:at]+b+s[min(at+1, len(s)):])
			}
			for _, changed := range texts {
				met[tokensAgree(t, changed)]++
			}
		}
	}
	enough(t, met, 1000, api.OK, api.ErrLexerByte, api.ErrLexerForm, api.ErrLexerOpen)
}

// P8.3: random tokens, some of them with a flaw, in lists that are too long for a line, too.
func TestRandomTokens(t *testing.T) {
	random := rand.New(rand.NewSource(81))
	met := map[api.Errno]int{}
	for range 5000 {
		var list []api.Token
		for range random.Intn(5) * random.Intn(30) {
			list = append(list, madeToken(random))
		}
		if len(list) > 0 && random.Intn(3) == 0 {
			spoil := &list[random.Intn(len(list))]
			flaw := []string{"a", "{", "}", `\`, "\t", "\n", " ", "é", "=", `"`, "B"}[random.Intn(11)]
			field := []*string{&spoil.Key, &spoil.Name, &spoil.Op, &spoil.Value}[random.Intn(4)]
			*field = []string{flaw, *field + flaw, flaw + *field, ""}[random.Intn(4)]
		}
		met[formatAgrees(t, list)]++
	}
	enough(t, met, 200, api.OK, api.ErrLexerForm, api.ErrLexerLimit)
}
