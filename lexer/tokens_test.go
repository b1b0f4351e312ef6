package lexer_test

import (
	"slices"
	"strings"
	"testing"

	"coldplug/api"
	"coldplug/lexer"
)

// opsWritten has all ops.
const opsWritten = "== != += -= := ="

// tokensAre checks the tokens of a line.
func tokensAre(t *testing.T, line string, want ...api.Token) {
	t.Helper()
	if got, err := lexer.Tokens(line); !slices.Equal(got, want) || err != api.OK {
		t.Errorf("Tokens(%q): got %+v and %d, want %+v", line, got, err, want)
	}
}

// refuses checks the error for a line.
func refuses(t *testing.T, line string, want api.Errno) {
	t.Helper()
	if got, err := lexer.Tokens(line); got != nil || err != want {
		t.Errorf("Tokens(%q): got %+v and %d, want %d", line, got, err, want)
	}
}

// P8.2: the examples of the chapter.
func TestExamples(t *testing.T) {
	tokensAre(t, `KERNEL=="sd*", ENV{ID}="a\"b"`, api.Token{Key: "KERNEL", Op: "==", Value: "sd*"}, api.Token{Key: "ENV", Name: "ID", Op: "=", Value: `a"b`})
	tokensAre(t, " , ")
	refuses(t, `A=="b"C=="d"`, api.ErrLexerForm)
	refuses(t, `A=="b`, api.ErrLexerOpen)
	refuses(t, `A{x`, api.ErrLexerOpen)
	refuses(t, `a=="b"`, api.ErrLexerForm)
	refuses(t, `A{}=="b"`, api.ErrLexerForm)
	refuses(t, `A = "b"`, api.ErrLexerForm)
}

// P8.2: every byte at every place of a token, and behind it.
func TestEveryByteInTokens(t *testing.T) {
	for b := range 256 {
		s := string([]byte{byte(b)})
		expect := func(line string, right bool, want ...api.Token) {
			t.Helper()
			switch {
			case s != "\t" && (b < 32 || b > 126):
				refuses(t, line, api.ErrLexerByte)
			case right:
				tokensAre(t, line, want...)
			default:
				refuses(t, line, api.ErrLexerForm)
			}
		}
		capital := 'A' <= b && b <= 'Z'
		separator := strings.Contains("\t ,", s)
		inName := b >= 33 && b <= 126 && !strings.Contains(`{}"`, s)
		one := api.Token{Key: "A", Op: "=", Value: "b"}
		expect(s+`="b"`, capital, api.Token{Key: s, Op: "=", Value: "b"})
		expect(`K`+s+`K="b"`, capital, api.Token{Key: "K" + s + "K", Op: "=", Value: "b"})
		expect(`A{`+s+`}="b"`, inName, api.Token{Key: "A", Name: s, Op: "=", Value: "b"})
		expect(`A{x`+s+`y}="b"`, inName, api.Token{Key: "A", Name: "x" + s + "y", Op: "=", Value: "b"})
		expect(`A`+s+`="b"`, capital || strings.Contains("=!+-:", s), read(`A`+s+`="b"`))
		expect(`A=`+s+`"b"`, s == "=", api.Token{Key: "A", Op: "==", Value: "b"})
		expect(`A="b"`+s, separator, one)
		expect(`A="b"`+s+`A="b"`, separator, one, one)
		expect(s+`A="b"`, separator || capital, api.Token{Key: strings.Trim(s, "\t ,") + "A", Op: "=", Value: "b"})
		expect(s, separator)
		if b != '"' {
			value := api.Token{Key: "A", Op: "=", Value: "x" + s + "y"}
			expect(`A="x`+s+`y"`, b != '\t', value)
			value.Value = `\` + s + "y"
			expect(`A="\`+s+`y"`, b != '\t', value)
		}
	}
}

// read returns the token of a line without a name, by its first "=" and the bytes around it.
func read(line string) api.Token {
	key := strings.TrimRight(line[:strings.IndexByte(line, '"')], "=!+-:")
	op, value, _ := strings.Cut(line[len(key):], `"`)
	return api.Token{Key: key, Op: op, Value: strings.TrimSuffix(value, `"`)}
}

// P8.2: all texts of up to three bytes of ops in the place of OP.
func TestOps(t *testing.T) {
	right := 0
	allTexts([]string{"=", "!", "+", "-", ":", "<"}, 3, func(op string) {
		if slices.Contains(strings.Split(opsWritten, " "), op) {
			tokensAre(t, `A`+op+`"b"`, api.Token{Key: "A", Op: op, Value: "b"})
			tokensAre(t, `A{=}`+op+`""`, api.Token{Key: "A", Name: "=", Op: op})
			right++
			return
		}
		refuses(t, `A`+op+`"b"`, api.ErrLexerForm)
		refuses(t, `A{=}`+op+`""`, api.ErrLexerForm)
	})
	if right != 6 {
		t.Errorf("%d ops are right", right)
	}
}

// P8.2: quotes and "\" in a VALUE.
func TestValues(t *testing.T) {
	for written, want := range map[string]string{
		``:               ``,
		` `:              ` `,
		`\"`:             `"`,
		`\"\"`:           `""`,
		`\\"`:            `\"`,
		`\\\"`:           `\\"`,
		`\\\\"`:          `\\\"`,
		`a\b`:            `a\b`,
		`\n\t`:           `\n\t`,
		`\\a`:            `\\a`,
		`\"a\"`:          `"a"`,
		`\ `:             `\ `,
		`B=\"c\", D=\"e`: `B="c", D="e`,
		`, A==`:          `, A==`,
		`{}#~!`:          `{}#~!`,
	} {
		token := api.Token{Key: "A", Name: "n", Op: ":=", Value: want}
		tokensAre(t, `A{n}:="`+written+`"`, token)
		tokensAre(t, `A{n}:="`+written+`" A{n}:="`+written+`",`, token, token)
		refuses(t, `A{n}:="`+written, api.ErrLexerOpen)
		refuses(t, `A{n}:="`+written+`\"`, api.ErrLexerOpen)
		refuses(t, `A{n}:="`+written+`"x`, api.ErrLexerForm)
		refuses(t, `A{n}:="`+written+`""`, api.ErrLexerForm)
	}
}

// P8.2: separators.
func TestSeparators(t *testing.T) {
	a, b := api.Token{Key: "A", Op: "==", Value: "1"}, api.Token{Key: "B", Name: "x", Op: "+=", Value: "2"}
	some := []string{" ", ",", "\t", ", ", " ,\t,,  "}
	for _, s := range append(some, "") {
		tokensAre(t, s)
		tokensAre(t, s+`A=="1"`, a)
		tokensAre(t, `A=="1"`+s, a)
		for _, between := range some {
			tokensAre(t, s+`A=="1"`+between+`B{x}+="2"`+s, a, b)
			tokensAre(t, s+`B{x}+="2"`+between+`A=="1"`+between+`A=="1"`+s, b, a, a)
		}
	}
	for _, s := range []string{";", ".", "/", `\`, "#", "()"} {
		refuses(t, `A=="1"`+s+`B="2"`, api.ErrLexerForm)
		refuses(t, `A=="1" `+s+` B="2"`, api.ErrLexerForm)
		refuses(t, `A=="1" `+s, api.ErrLexerForm)
		refuses(t, s+` A=="1"`, api.ErrLexerForm)
	}
}

// P8.2: A line that ends within a token.
func TestUnfinishedTokens(t *testing.T) {
	const line = `KEY{NA}+="b\"c"`
	for n := 1; n < len(line); n++ {
		want := api.ErrLexerForm
		if n >= len(`KEY{`) && n < len(`KEY{NA}`) || n >= len(`KEY{NA}+="`) {
			want = api.ErrLexerOpen
		}
		refuses(t, line[:n], want)
		refuses(t, line+", "+line[:n], want)
		// Separators go on with a NAME or a VALUE, as far as these may have them.
		for _, separator := range []string{" ", "\t", ","} {
			inside := want == api.ErrLexerOpen && (separator == "," || separator == " " && n > len(`KEY{NA}`))
			if inside {
				refuses(t, line[:n]+separator, api.ErrLexerOpen)
			} else {
				refuses(t, line[:n]+separator, api.ErrLexerForm)
			}
		}
	}
}

// P8.2: the first fault from the left is the one that counts.
func TestFirstFault(t *testing.T) {
	form := []string{`a=""`, `A`, `A{}=""`, `A{ }=""`, `A{x` + "\t", `A=="` + "\t", `A=x`, `A="b"x`, `A="b""`, `{x}=""`, `="b"`, `"b"`, `A{x}{y}="b"`, `A{x}y="b"`, `A{x}"b"`, `A"b"`}
	for _, wrong := range form {
		refuses(t, wrong, api.ErrLexerForm)
		refuses(t, `B="1" `+wrong, api.ErrLexerForm)
		for _, behind := range []string{` A="b`, ` A{x`, ` B=="c"`, ` \"`} {
			refuses(t, wrong+behind, api.ErrLexerForm)
		}
	}
	// Behind an open quote, all is a part of the VALUE, until a quote or a tab comes.
	refuses(t, `A="b, a==x {}`, api.ErrLexerOpen)
	refuses(t, `A="b, a==x {}`+"\t", api.ErrLexerForm)
	refuses(t, `A="b, C="d"`, api.ErrLexerForm)
	refuses(t, `A{b=x,C`, api.ErrLexerOpen)
	refuses(t, `A{b=x,C="d"`, api.ErrLexerForm)
}

// P8.2: a wrong byte anywhere comes ahead of all faults of tokens, and the limit ahead of both.
func TestOrderOfErrors(t *testing.T) {
	for _, line := range []string{``, ` , `, `A="b"`, `a`, `A=="b`, `A{x`, `A="b"C="d"`} {
		for _, wrong := range []string{"\x00", "\n", "\r", "\v", "\x1f", "\x7f", "\x80", "\xff", "é", "\u2028", "\xc1\xa1"} {
			refuses(t, line+wrong, api.ErrLexerByte)
			refuses(t, wrong+line, api.ErrLexerByte)
			refuses(t, line+" "+wrong+" "+line, api.ErrLexerByte)
			refuses(t, line+wrong+strings.Repeat(" ", api.MaxLine), api.ErrLexerLimit)
		}
		refuses(t, line+strings.Repeat(" ", api.MaxLine+1), api.ErrLexerLimit)
	}
}

// P8.2: the greatest length of a line.
func TestLongLines(t *testing.T) {
	fill := func(head, tail string, n int) string {
		return head + strings.Repeat("A", n-len(head)-len(tail)) + tail
	}
	for _, n := range []int{api.MaxLine - 1, api.MaxLine} {
		long := strings.Repeat("A", n-4)
		tokensAre(t, fill(``, `=""`, n), api.Token{Key: long + "A", Op: "="})
		tokensAre(t, fill(`A{`, `}=""`, n), api.Token{Key: "A", Name: long[2:], Op: "="})
		tokensAre(t, fill(`A="`, `"`, n), api.Token{Key: "A", Op: "=", Value: long})
		tokensAre(t, strings.Repeat(" ", n))
		refuses(t, fill(``, ``, n), api.ErrLexerForm)
		refuses(t, fill(`A{`, ``, n), api.ErrLexerOpen)
		refuses(t, fill(`A="`, ``, n), api.ErrLexerOpen)
	}
	for _, n := range []int{api.MaxLine + 1, api.MaxLine + 2, 1 << 20} {
		refuses(t, fill(``, `=""`, n), api.ErrLexerLimit)
		refuses(t, fill(`A{`, `}=""`, n), api.ErrLexerLimit)
		refuses(t, fill(`A="`, `"`, n), api.ErrLexerLimit)
		refuses(t, fill(``, ``, n), api.ErrLexerLimit)
		refuses(t, fill(`A="`, ``, n), api.ErrLexerLimit)
		refuses(t, strings.Repeat("\n", n), api.ErrLexerLimit)
		refuses(t, strings.Repeat(" ", n), api.ErrLexerLimit)
	}
	// Most tokens in a line.
	list, err := lexer.Tokens(strings.Repeat(`A="" `, api.MaxLine/5))
	if len(list) != api.MaxLine/5 || err != api.OK {
		t.Errorf("got %d tokens and %d", len(list), err)
	}
}

// R4: lists share no memory.
func TestTokensAreNew(t *testing.T) {
	const line = `A="b" C{d}+="e" F:="g"`
	first, _ := lexer.Tokens(line)
	for i := range first[:cap(first)] {
		first[:cap(first)][i] = api.Token{Key: "spoilt"}
	}
	tokensAre(t, line, api.Token{Key: "A", Op: "=", Value: "b"}, api.Token{Key: "C", Name: "d", Op: "+=", Value: "e"}, api.Token{Key: "F", Op: ":=", Value: "g"})
}
