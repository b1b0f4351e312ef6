package substitute_test

import (
	"math"
	"slices"
	"strings"
	"testing"

	"coldplug/api"
	"coldplug/substitute"
)

// templateIs checks the template of pieces.
func templateIs(t *testing.T, want string, list ...api.Piece) {
	t.Helper()
	if got, err := substitute.Format(list); got != want || err != api.OK {
		t.Errorf("Format(%+v): got %q and %d, want %q", list, got, err, want)
	}
}

// noFormat checks the error for pieces.
func noFormat(t *testing.T, want api.Errno, list ...api.Piece) {
	t.Helper()
	if got, err := substitute.Format(list); got != "" || err != want {
		t.Errorf("Format(%+v): got %q and %d, want %d", list, got, err, want)
	}
}

// unbraced are the kinds of pieces that can do without braces.
func unbraced() []int { return []int{2, 3, 4, 5, 6, 9, 10, 11} }

// P9.2: each kind alone, and all of them together.
func TestFormat(t *testing.T) {
	templateIs(t, "")
	for _, kind := range unbraced() {
		templateIs(t, longWritten[kind], of(kind)...)
	}
	templateIs(t, "$kernel$number$devpath$id$driver$result$parent$name", of(unbraced()...)...)
	templateIs(t, "$attr{a}$env{K}", attr("a"), env("K"))
	templateIs(t, "$result{1}$result{99}$result{2+}$result{10+}", word(1, false), word(99, false), word(2, true), word(10, true))
	templateIs(t, "a$$%%$$$$b", plain("a$%$$b"))
	templateIs(t, "{x} ~", plain("{x} ~"))
	for b := range 256 {
		s := string([]byte{byte(b)})
		switch {
		case s == "$" || s == "%":
			templateIs(t, s+s+"a"+s+s, plain(s+"a"+s))
		case b < ' ' || b > '~':
			noFormat(t, api.ErrSubstituteForm, plain(s))
			noFormat(t, api.ErrSubstituteForm, plain("a"+s+"a"))
		default:
			templateIs(t, s, plain(s))
		}
	}
}

// P9.2: "%" is written ahead of a text that begins with a-z, and nowhere else.
func TestFormatAheadOfTexts(t *testing.T) {
	for _, kind := range unbraced() {
		p := api.Piece{Kind: kind}
		for b := ' '; b <= '~'; b++ {
			s := string(b)
			written := strings.ReplaceAll(strings.ReplaceAll(s, "$", "$$"), "%", "%%") + "a"
			switch small := 'a' <= b && b <= 'z'; {
			case small && kind == api.PieceName || b == '{' && kind == api.PieceResult:
				noFormat(t, api.ErrSubstituteForm, p, plain(s+"a"))
				noFormat(t, api.ErrSubstituteForm, p, p, plain(s+"a"), p)
			case small:
				templateIs(t, shortWritten[kind]+written, p, plain(s+"a"))
				templateIs(t, longWritten[kind]+shortWritten[kind]+written+longWritten[kind], p, p, plain(s+"a"), p)
			default:
				templateIs(t, longWritten[kind]+written, p, plain(s+"a"))
				templateIs(t, longWritten[kind]+longWritten[kind]+written+longWritten[kind], p, p, plain(s+"a"), p)
			}
		}
		// Letters in braces, and those of words, are not those of a text.
		templateIs(t, longWritten[kind]+"$attr{a}", p, attr("a"))
		templateIs(t, "a"+longWritten[kind], plain("a"), p)
	}
	for _, p := range []api.Piece{attr("a"), env("K"), word(1, false), word(1, true)} {
		alone, _ := substitute.Format([]api.Piece{p})
		templateIs(t, alone+"a", p, plain("a"))
		templateIs(t, alone+"{", p, plain("{"))
	}
}

// P9.2: pieces that are not as in the table.
func TestFormatOfWrongPieces(t *testing.T) {
	wrong := of(math.MinInt, -1, 0, 12, 13, 256, math.MaxInt, api.PieceText, api.PieceAttr, api.PieceEnv)
	for kind := api.PieceText; kind <= api.PieceName; kind++ {
		right := api.Piece{Kind: kind}
		if kind == api.PieceText || kind == api.PieceAttr || kind == api.PieceEnv {
			right.Text = "K"
		}
		if _, err := substitute.Format([]api.Piece{right}); err != api.OK {
			t.Errorf("Format(%+v): got %d, want OK", right, err)
		}
		more := right
		more.More = true
		wrong = append(wrong, more)
		for _, n := range []int{math.MinInt, -1, 1, 99, 100, math.MaxInt} {
			p := right
			p.Word = n
			if kind != api.PieceResult || n < 1 || n > 99 {
				wrong = append(wrong, p)
			}
		}
		if right.Text == "" {
			right.Text = "a"
			wrong = append(wrong, right)
		}
	}
	wrong = append(wrong, plain("\n"), plain("a\x7f"), plain("é"), plain("\xff"), plain(strings.Repeat("a", 300)+"\t"))
	wrong = append(wrong, attr("."), attr(".."), attr("a/b"), attr("a}"), attr("a b"), attr(strings.Repeat("a", 33)), attr("é"), attr("$"))
	wrong = append(wrong, env("a"), env("Ka"), env("1"), env("_K"), env("K}"), env("K-"), env(strings.Repeat("K", 33)), env("."))
	wrong = append(wrong, word(100, true), word(-1, true), word(math.MinInt, true), word(math.MaxInt, true))
	wrong = append(wrong, api.Piece{Kind: api.PieceResult, Text: "1"}, api.Piece{Kind: api.PieceResult, Word: 1, Text: "a"}, api.Piece{Kind: api.PieceResult, Word: 1, More: true, Text: "a"})
	long := plain(strings.Repeat("A", 300))
	for _, p := range wrong {
		noFormat(t, api.ErrSubstituteForm, p)
		noFormat(t, api.ErrSubstituteForm, of(2)[0], p, of(3)[0])
		// This error comes ahead of the limit, wherever the piece stands.
		noFormat(t, api.ErrSubstituteForm, p, of(2)[0], long)
		noFormat(t, api.ErrSubstituteForm, long, of(2)[0], p)
	}
}

// P9.2: two texts are no neighbours.
func TestFormatOfTwoTexts(t *testing.T) {
	long := plain(strings.Repeat("A", 300))
	for _, s := range []string{"a", "A", " ", "{", "$"} {
		noFormat(t, api.ErrSubstituteForm, plain("x"), plain(s))
		noFormat(t, api.ErrSubstituteForm, plain("$"), plain(s))
		noFormat(t, api.ErrSubstituteForm, of(2)[0], plain("x"), plain(s), of(2)[0])
		noFormat(t, api.ErrSubstituteForm, plain(s), plain(s), plain(s))
		noFormat(t, api.ErrSubstituteForm, long, plain(s))
	}
	noFormat(t, api.ErrSubstituteForm, long, of(11)[0], plain("a"))
	noFormat(t, api.ErrSubstituteForm, long, of(9)[0], plain("{"))
	noFormat(t, api.ErrSubstituteForm, of(9)[0], plain("{"), of(2)[0], long)
	templateIs(t, "a$kernel{", plain("a"), of(2)[0], plain("{"))
}

// P9.2: the greatest length of a template.
func TestFormatLimit(t *testing.T) {
	for n := 250; n <= 260; n++ {
		for _, list := range [][]api.Piece{
			{plain(strings.Repeat("a", n))},
			{plain(strings.Repeat("a", n-7)), of(2)[0]},
			{of(2)[0], plain(strings.Repeat("a", n-2))},
			{of(2)[0], plain(strings.Repeat("A", n-7))},
			{plain(strings.Repeat("a", n%2) + strings.Repeat("%", n/2))},
			{word(99, true), plain(strings.Repeat("$", n/2-6) + strings.Repeat("a", n%2))},
			{attr("a"), env("K"), plain(strings.Repeat("a", n-15))},
		} {
			got, err := substitute.Format(list)
			if n <= api.MaxText && (len(got) != n || err != api.OK) {
				t.Errorf("a template of %d bytes: got %q and %d", n, got, err)
			}
			if n > api.MaxText {
				noFormat(t, api.ErrSubstituteLimit, list...)
			}
		}
	}
	noFormat(t, api.ErrSubstituteLimit, plain(strings.Repeat("$", 129)))
	noFormat(t, api.ErrSubstituteLimit, plain(strings.Repeat("%", 1<<20)))
	noFormat(t, api.ErrSubstituteLimit, slices.Repeat(of(5), 86)...)
	noFormat(t, api.ErrSubstituteLimit, slices.Repeat(of(2), 1<<16)...)
}

// R4: arguments stay as they are, the spare capacity of their slices, too.
func TestFormatLeavesPieces(t *testing.T) {
	room := []api.Piece{plain("$"), {Kind: api.PieceKernel}, plain("spare")}
	before := slices.Clone(room)
	templateIs(t, "$$$kernel", room[:2]...)
	if !slices.Equal(room, before) {
		t.Errorf("the memory of an argument became %+v", room)
	}
	templateIs(t, "", room[:0]...)
}
