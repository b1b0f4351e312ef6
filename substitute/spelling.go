package substitute

import (
	"strconv"
	"strings"

	"coldplug/api"
)

// spelling is how pieces of a kind begin, with "$" and with "%"; short is empty where there is no such form.
type spelling struct{ long, short string }

// spellings returns how the pieces of each kind begin. Texts have no spelling.
func spellings() [api.PieceName + 1]spelling {
	return [...]spelling{
		api.PieceKernel:  {"$kernel", "%k"},
		api.PieceNumber:  {"$number", "%n"},
		api.PieceDevpath: {"$devpath", "%p"},
		api.PieceID:      {"$id", "%b"},
		api.PieceDriver:  {"$driver", "%d"},
		api.PieceAttr:    {"$attr", "%s"},
		api.PieceEnv:     {"$env", "%E"},
		api.PieceResult:  {"$result", "%c"},
		api.PieceParent:  {"$parent", "%P"},
		api.PieceName:    {"$name", ""},
	}
}

// first returns the piece at the beginning of a text that is not empty, and what is behind it; texts that belong together may come as several pieces.
func first(s string) (api.Piece, string, bool) {
	switch plain := strings.IndexAny(s, "$%"); {
	case plain < 0:
		return textPiece(s), "", true
	case plain > 0:
		return textPiece(s[:plain]), s[plain:], true
	case len(s) > 1 && s[1] == s[0]:
		return textPiece(s[:1]), s[2:], true
	}
	n := spellingLength(s)
	return filled(kindOf(s[:n]), s[n:])
}

func textPiece(s string) api.Piece { return api.Piece{Kind: api.PieceText, Text: s} }

// spellingLength returns how many bytes of a text that begins with "$" or "%" are a spelling, be it a known one or not.
func spellingLength(s string) int {
	if s[0] == '%' {
		return min(2, len(s))
	}
	n := 1
	for n < len(s) && isSmall(s[n]) {
		n++
	}
	return n
}

// kindOf returns the kind of pieces that begin like this, or 0.
func kindOf(s string) int {
	for kind, known := range spellings() {
		if s == known.long || s == known.short {
			return kind
		}
	}
	return 0
}

// filled returns a piece of a kind with what the braces at the beginning of s say, and what is behind them.
func filled(kind int, s string) (api.Piece, string, bool) {
	p := api.Piece{Kind: kind}
	if !knowsBraces(kind) || !strings.HasPrefix(s, "{") {
		// Where braces must follow, the piece lacks its name, and is not right.
		return p, s, isPiece(p)
	}
	inside, behind, closed := strings.Cut(s[1:], "}")
	if kind != api.PieceResult {
		p.Text = inside
		return p, behind, closed && isPiece(p)
	}
	inside, p.More = strings.CutSuffix(inside, "+")
	p.Word = wordNumber(inside)
	return p, behind, closed && p.Word > 0 && isPiece(p)
}

// knowsBraces reports whether "{" has a meaning behind a spelling of this kind.
func knowsBraces(kind int) bool {
	return kind == api.PieceAttr || kind == api.PieceEnv || kind == api.PieceResult
}

// wordNumber returns the number that is written in this way, or 0 if there is none.
func wordNumber(s string) int {
	n, err := strconv.Atoi(s)
	if err != nil || strconv.Itoa(n) != s {
		return 0
	}
	return n
}

// written returns how a right piece is written; small says whether a letter a-z follows, which would belong to a word.
func written(p api.Piece, small bool) string {
	known := spellings()[p.Kind]
	switch {
	case p.Kind == api.PieceText:
		return strings.ReplaceAll(strings.ReplaceAll(p.Text, "$", "$$"), "%", "%%")
	case p.Kind == api.PieceAttr, p.Kind == api.PieceEnv:
		return known.long + "{" + p.Text + "}"
	case p.More:
		return known.long + "{" + strconv.Itoa(p.Word) + "+}"
	case p.Word > 0:
		return known.long + "{" + strconv.Itoa(p.Word) + "}"
	case small:
		return known.short
	}
	return known.long
}
