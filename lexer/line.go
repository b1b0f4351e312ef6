package lexer

import "strings"

// firstLine returns the first logical line of a text, how many physical lines form it, and the text behind them.
func firstLine(text string) (string, int, string) {
	var line strings.Builder
	physical := 0
	for continued := true; continued && text != ""; physical++ {
		var piece string
		piece, text, _ = strings.Cut(text, "\n")
		piece, continued = strings.CutSuffix(piece, "\\")
		line.WriteString(piece)
	}
	return line.String(), physical, text
}

// isBlank reports whether there is nothing in a line but a comment.
func isBlank(line string) bool {
	line = strings.TrimLeft(line, " \t")
	return line == "" || line[0] == '#'
}
