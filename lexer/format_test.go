package lexer_test

import (
	"slices"
	"strings"
	"testing"

	"coldplug/api"
	"coldplug/lexer"
)

// lineIs checks the line of tokens.
func lineIs(t *testing.T, want string, list ...api.Token) {
	t.Helper()
	if got, err := lexer.Format(list); got != want || err != api.OK {
		t.Errorf("Format(%+v): got %q and %d, want %q", list, got, err, want)
	}
}

// noLine checks the error for tokens.
func noLine(t *testing.T, want api.Errno, list ...api.Token) {
	t.Helper()
	if got, err := lexer.Format(list); got != "" || err != want {
		t.Errorf("Format(%+v): got %q and %d, want %d", list, got, err, want)
	}
}

// P8.3
func TestFormat(t *testing.T) {
	a, b := api.Token{Key: "A", Op: "=="}, api.Token{Key: "ENV", Name: "a=[1],#", Op: "+=", Value: `x, "y" \z`}
	lineIs(t, ``)
	lineIs(t, `A==""`, a)
	lineIs(t, `A=="", A==""`, a, a)
	lineIs(t, `ENV{a=[1],#}+="x, \"y\" \z"`, b)
	lineIs(t, `ENV{a=[1],#}+="x, \"y\" \z", A=="", ENV{a=[1],#}+="x, \"y\" \z"`, b, a, b)
	for _, op := range strings.Split(opsWritten, " ") {
		lineIs(t, `A{b}`+op+`"c"`, api.Token{Key: "A", Name: "b", Op: op, Value: "c"})
	}
	for value, want := range map[string]string{
		`"`:   `\"`,
		`""`:  `\"\"`,
		`\"`:  `\\"`,
		`\\"`: `\\\"`,
		`\a`:  `\a`,
		`\\ `: `\\ `,
		` `:   ` `,
		`~`:   `~`,
	} {
		lineIs(t, `A="`+want+`"`, api.Token{Key: "A", Op: "=", Value: value})
	}
}

// P8.3: each field of a token with every byte, alone, at the beginning, inside and at the end.
func TestFormatOfEveryByte(t *testing.T) {
	good := api.Token{Key: "A", Name: "b", Op: "=", Value: "c"}
	for b := range 256 {
		s := string([]byte{byte(b)})
		for i, text := range []string{s, s + "AA", "A" + s + "A", "AA" + s} {
			inText := 32 <= b && b <= 126
			for field, right := range []bool{
				'A' <= b && b <= 'Z',
				inText && !strings.Contains(` {}"`, s),
				text == "=",
				inText && (b != '\\' || i == 1 || i == 2),
			} {
				x := good
				*[]*string{&x.Key, &x.Name, &x.Op, &x.Value}[field] = text
				if !right {
					noLine(t, api.ErrLexerForm, x)
					noLine(t, api.ErrLexerForm, good, x, good)
					continue
				}
				want := x.Key + "{" + x.Name + "}" + x.Op + `"` + strings.ReplaceAll(x.Value, `"`, `\"`) + `"`
				lineIs(t, want, x)
				lineIs(t, `A{b}="c", `+want+`, A{b}="c"`, good, x, good)
			}
		}
	}
}

// P8.3: tokens that are not as described.
func TestFormatOfWrongTokens(t *testing.T) {
	good := api.Token{Key: "A", Name: "b", Op: "=", Value: "c"}
	for _, wrong := range []func(x *api.Token){
		func(x *api.Token) { *x = api.Token{} },
		func(x *api.Token) { x.Key = "" },
		func(x *api.Token) { x.Key = "Ab" },
		func(x *api.Token) { x.Key = "A{b}" },
		func(x *api.Token) { x.Key = "É" },
		func(x *api.Token) { x.Name = " " },
		func(x *api.Token) { x.Name = "é" },
		func(x *api.Token) { x.Name = "b}=\"\" C{d" },
		func(x *api.Token) { x.Op = "" },
		func(x *api.Token) { x.Op = " = " },
		func(x *api.Token) { x.Op = "=\"" },
		func(x *api.Token) { x.Op = "=+" },
		func(x *api.Token) { x.Op = "===" },
		func(x *api.Token) { x.Value = `\` },
		func(x *api.Token) { x.Value = `c\` },
		func(x *api.Token) { x.Value = `c\\` },
		func(x *api.Token) { x.Value = `"\` },
		func(x *api.Token) { x.Value = "é" },
		func(x *api.Token) { x.Value = "c\n" },
	} {
		x := good
		wrong(&x)
		noLine(t, api.ErrLexerForm, x)
		noLine(t, api.ErrLexerForm, x, good)
		noLine(t, api.ErrLexerForm, good, good, x)
		// This error comes ahead of the limit, wherever the token stands.
		long := api.Token{Key: "A", Op: "=", Value: strings.Repeat("c", api.MaxLine)}
		noLine(t, api.ErrLexerForm, x, long)
		noLine(t, api.ErrLexerForm, long, good, x)
	}
}

// P8.3: the greatest length of a line, quotes being two bytes.
func TestFormatLimit(t *testing.T) {
	short := api.Token{Key: "B", Name: "b", Op: "+=", Value: ""}
	for name, build := range map[string]func(n int) api.Token{
		"key":   func(n int) api.Token { return api.Token{Key: strings.Repeat("A", n-3), Op: "="} },
		"name":  func(n int) api.Token { return api.Token{Key: "A", Name: strings.Repeat("x", n-6), Op: "="} },
		"value": func(n int) api.Token { return api.Token{Key: "A", Op: "==", Value: strings.Repeat("x", n-5)} },
		"quotes": func(n int) api.Token {
			return api.Token{Key: "A", Op: "=", Value: strings.Repeat("x", n%2) + strings.Repeat(`"`, n/2-2)}
		},
	} {
		for n := api.MaxLine - 2; n <= api.MaxLine+3; n++ {
			for _, list := range [][]api.Token{{build(n)}, {build(n - 10), short}, {short, build(n - 10)}} {
				got, err := lexer.Format(list)
				if n <= api.MaxLine && (len(got) != n || err != api.OK) {
					t.Errorf("%s: a line of %d bytes: got %d bytes and %d", name, n, len(got), err)
				}
				if n > api.MaxLine {
					noLine(t, api.ErrLexerLimit, list...)
				}
			}
		}
	}
	noLine(t, api.ErrLexerLimit, slices.Repeat([]api.Token{short}, 1<<16)...)
}

// R4: arguments stay as they are, the spare capacity of their slices, too.
func TestFormatLeavesTokens(t *testing.T) {
	room := []api.Token{{Key: "A", Op: "=", Value: `"`}, {Key: "B", Op: "=="}, {Key: "spare"}}
	before := slices.Clone(room)
	lineIs(t, `A="\"", B==""`, room[:2]...)
	if !slices.Equal(room, before) {
		t.Errorf("the memory of an argument became %+v", room)
	}
	lineIs(t, "", []api.Token{}...)
	lineIs(t, "", room[:0]...)
}
