package substitute

import (
	"iter"
	"strings"

	"coldplug/api"
	"coldplug/device"
	"coldplug/name"
)

// expander returns what a piece stands for. Of what is longer than any text, it may leave out the end.
type expander func(p api.Piece, v api.Values) string

// expanders returns the expanders of all kinds of pieces, by kind.
func expanders() [api.PieceName + 1]expander {
	return [...]expander{
		api.PieceText:    func(p api.Piece, _ api.Values) string { return p.Text },
		api.PieceKernel:  func(_ api.Piece, v api.Values) string { return v.Kernel },
		api.PieceNumber:  func(_ api.Piece, v api.Values) string { return name.Number(v.Kernel) },
		api.PieceDevpath: func(_ api.Piece, v api.Values) string { return v.Devpath },
		api.PieceID:      func(_ api.Piece, v api.Values) string { return v.ID },
		api.PieceDriver:  func(_ api.Piece, v api.Values) string { return v.Driver },
		api.PieceAttr:    attribute,
		api.PieceEnv:     property,
		api.PieceResult:  result,
		api.PieceParent:  func(_ api.Piece, v api.Values) string { return v.Parent },
		api.PieceName:    func(_ api.Piece, v api.Values) string { return v.Name },
	}
}

// attribute returns the value of an attribute; one that is there hides the one above, even if it is empty.
func attribute(p api.Piece, v api.Values) string {
	value, found := device.Get(v.Attrs, p.Text)
	if !found {
		value, _ = device.Get(v.Above, p.Text)
	}
	return value
}

// property returns the value of a property.
func property(p api.Piece, v api.Values) string {
	value, _ := device.Get(v.Env, p.Text)
	return value
}

// result returns the Result, or some of its words.
func result(p api.Piece, v api.Values) string {
	if p.Word == 0 {
		return v.Result
	}
	var chosen []string
	number := 0
	for word := range words(v.Result) {
		number++
		if number < p.Word {
			continue
		}
		chosen = append(chosen, word)
		// No word is empty, so that this many are as long as any text.
		if !p.More || len(chosen) == api.MaxText {
			break
		}
	}
	return strings.Join(chosen, " ")
}

// words goes through the words of a text.
func words(s string) iter.Seq[string] {
	return func(yield func(string) bool) {
		for piece := range strings.SplitSeq(s, " ") {
			if piece != "" && !yield(piece) {
				return
			}
		}
	}
}
