package lexer

import (
	"strings"

	"coldplug/api"
)

// beginning reads the token at the beginning of a text up to the quote ahead of its VALUE, and returns the text behind this quote, too.
func beginning(text string) (api.Token, string, api.Errno) {
	var t api.Token
	t.Key, text = take(text, inKey)
	if t.Key == "" {
		return api.Token{}, "", api.ErrLexerForm
	}
	if inside, braced := strings.CutPrefix(text, "{"); braced {
		t.Name, text = take(inside, inName)
		if text == "" {
			return api.Token{}, "", api.ErrLexerOpen
		}
		if t.Name == "" || text[0] != '}' {
			return api.Token{}, "", api.ErrLexerForm
		}
		text = text[1:]
	}
	t.Op, text = take(text, inOp)
	body, quoted := strings.CutPrefix(text, `"`)
	if !isOp(t.Op) || !quoted {
		return api.Token{}, "", api.ErrLexerForm
	}
	return t, body, api.OK
}

// take returns the bytes of some classes at the beginning of a text, and what is behind them.
func take(text string, classes class) (string, string) {
	n := leading(text, classes)
	return text[:n], text[n:]
}

// isToken reports whether a token can be written.
func isToken(t api.Token) bool {
	if t.Key == "" || !consists(t.Key, inKey) || !consists(t.Name, inName) || !isOp(t.Op) {
		return false
	}
	// A backslash at the end would hide the quote behind it.
	return consists(t.Value, inValue) && !strings.HasSuffix(t.Value, `\`)
}

// isOp reports whether a text is an OP.
func isOp(s string) bool {
	switch s {
	case "==", "!=", "+=", "-=", ":=", "=":
		return true
	}
	return false
}

// written returns the text of a token.
func written(t api.Token) string {
	name := ""
	if t.Name != "" {
		name = "{" + t.Name + "}"
	}
	return t.Key + name + t.Op + `"` + strings.ReplaceAll(t.Value, `"`, `\"`) + `"`
}

// unescaped returns the VALUE that is written in this way between its quotes.
func unescaped(s string) string { return strings.ReplaceAll(s, `\"`, `"`) }
