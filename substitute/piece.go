package substitute

import (
	"coldplug/api"
	"coldplug/name"
)

// mostWord is the greatest number of a word of Result in a template.
const mostWord = 99

// isPiece reports whether a piece is right, whatever its neighbours are.
func isPiece(p api.Piece) bool {
	if p.Kind == api.PieceResult {
		return p.Text == "" && 0 <= p.Word && p.Word <= mostWord && (p.Word > 0 || !p.More)
	}
	if p.Word != 0 || p.More {
		return false
	}
	switch p.Kind {
	case api.PieceText:
		return p.Text != "" && isPrintable(p.Text)
	case api.PieceAttr:
		return name.Valid(p.Text)
	case api.PieceEnv:
		return name.Key(p.Text)
	}
	return api.PieceText < p.Kind && p.Kind <= api.PieceName && p.Text == ""
}

// isPrintable reports whether s has the bytes of a text, of which there may be more than a text has.
func isPrintable(s string) bool {
	for i := range len(s) {
		if s[i] < ' ' || s[i] > '~' {
			return false
		}
	}
	return true
}

// mayPrecede reports whether a piece can be written ahead of another one; both are right.
func mayPrecede(p, next api.Piece) bool {
	if next.Kind != api.PieceText {
		return true
	}
	switch p.Kind {
	case api.PieceText:
		return false
	case api.PieceName:
		return !beginsSmall(next)
	case api.PieceResult:
		return p.Word > 0 || next.Text[0] != '{'
	}
	return true
}

// beginsSmall reports whether a piece is a text that a word ahead of it would go on with.
func beginsSmall(p api.Piece) bool {
	return p.Kind == api.PieceText && isSmall(p.Text[0])
}

// isSmall reports whether b is a byte of words.
func isSmall(b byte) bool { return 'a' <= b && b <= 'z' }

// appendPiece appends a piece to a list, in which no two texts may be neighbours.
func appendPiece(list []api.Piece, p api.Piece) []api.Piece {
	last := len(list) - 1
	if last >= 0 && p.Kind == api.PieceText && list[last].Kind == api.PieceText {
		list[last].Text += p.Text
		return list
	}
	return append(list, p)
}
