package lexer

// class is a set of places where a byte may stand.
type class int

const (
	inLine class = 1 << iota
	inKey
	inName
	inOp
	inValue
	separates
)

// classOf returns where a byte may stand. Runes of several bytes, and bytes that are no rune, may stand nowhere.
func classOf(r rune) class {
	switch {
	case r == '\t':
		return inLine | separates
	case r < ' ' || r > '~':
		return 0
	case r == ' ':
		return inLine | inValue | separates
	case r == ',':
		return inLine | inName | inValue | separates
	case r == '{', r == '}', r == '"':
		return inLine | inValue
	case 'A' <= r && r <= 'Z':
		return inLine | inKey | inName | inValue
	case r == '=', r == '!', r == '+', r == '-', r == ':':
		return inLine | inName | inOp | inValue
	}
	return inLine | inName | inValue
}

// leading returns how many bytes at the beginning of a text are of some classes.
func leading(text string, classes class) int {
	for i, r := range text {
		if classOf(r)&classes == 0 {
			return i
		}
	}
	return len(text)
}

// consists reports whether all bytes of a text are of some classes.
func consists(text string, classes class) bool { return leading(text, classes) == len(text) }
