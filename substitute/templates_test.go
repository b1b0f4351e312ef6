package substitute_test

import (
	"slices"
	"strings"
	"testing"

	"coldplug/api"
	"coldplug/substitute"
)

func plain(s string) api.Piece { return api.Piece{Kind: api.PieceText, Text: s} }

func attr(s string) api.Piece { return api.Piece{Kind: api.PieceAttr, Text: s} }

func env(s string) api.Piece { return api.Piece{Kind: api.PieceEnv, Text: s} }

func word(n int, more bool) api.Piece {
	return api.Piece{Kind: api.PieceResult, Word: n, More: more}
}

// of returns the pieces of these kinds, without braces.
func of(kinds ...int) []api.Piece {
	var list []api.Piece
	for _, kind := range kinds {
		list = append(list, api.Piece{Kind: kind})
	}
	return list
}

// piecesAre checks the pieces of a template.
func piecesAre(t *testing.T, s string, want ...api.Piece) {
	t.Helper()
	if got, err := substitute.Parse(s); !slices.Equal(got, want) || err != api.OK {
		t.Errorf("Parse(%q): got %+v and %d, want %+v", s, got, err, want)
	}
	if err := substitute.Check(s); err != api.OK {
		t.Errorf("Check(%q): got %d, want OK", s, err)
	}
	if _, err := substitute.Expand(s, api.Values{}); err != api.OK {
		t.Errorf("Expand(%q): got %d, want OK", s, err)
	}
}

// noTemplate checks the error of a text, in all functions that read templates.
func noTemplate(t *testing.T, want api.Errno, s string) {
	t.Helper()
	if got, err := substitute.Parse(s); got != nil || err != want {
		t.Errorf("Parse(%q): got %+v and %d, want %d", s, got, err, want)
	}
	if err := substitute.Check(s); err != want {
		t.Errorf("Check(%q): got %d, want %d", s, err, want)
	}
	if got, err := substitute.Expand(s, sample()); got != "" || err != want {
		t.Errorf("Expand(%q): got %q and %d, want %d", s, got, err, want)
	}
}

// P9.1: what is written, of each row of the table.
func TestPieces(t *testing.T) {
	piecesAre(t, "")
	for kind, s := range longWritten {
		if s != "" && kind != api.PieceAttr && kind != api.PieceEnv {
			piecesAre(t, s, of(kind)...)
			piecesAre(t, s+s, of(kind, kind)...)
		}
	}
	for kind, s := range shortWritten {
		if s != "" && kind != api.PieceAttr && kind != api.PieceEnv {
			piecesAre(t, s, of(kind)...)
			piecesAre(t, s+"x"+s, api.Piece{Kind: kind}, plain("x"), api.Piece{Kind: kind})
		}
	}
	piecesAre(t, "$attr{a}%s{...}$attr{A+:-!_.0}", attr("a"), attr("..."), attr("A+:-!_.0"))
	piecesAre(t, "$env{K}%E{K_1}$env{ID}", env("K"), env("K_1"), env("ID"))
	for _, spelling := range []string{"$result", "%c"} {
		piecesAre(t, spelling, word(0, false))
		piecesAre(t, spelling+"{1}"+spelling+"{9+}", word(1, false), word(9, true))
		piecesAre(t, spelling+"{10+}"+spelling+"{99}", word(10, true), word(99, false))
	}
	piecesAre(t, "$$", plain("$"))
	piecesAre(t, "%%", plain("%"))
	piecesAre(t, "a b", plain("a b"))
}

// P9.1: neighbouring texts are one piece, whatever they are written with.
func TestNeighbouringTexts(t *testing.T) {
	piecesAre(t, "$$$$", plain("$$"))
	piecesAre(t, "a$$b%%%%c", plain("a$b%%c"))
	piecesAre(t, "$$kernel%%k", plain("$kernel%k"))
	piecesAre(t, "$$$kernel%%%k", plain("$"), of(2)[0], plain("%"), of(2)[0])
	piecesAre(t, "a%kb%%$nameC$$", plain("a"), of(2)[0], plain("b%"), of(11)[0], plain("C$"))
	piecesAre(t, "%k$$%n%%", of(2)[0], plain("$"), of(3)[0], plain("%"))
}

// P9.1: behind "$" the longest run of a-z is the word, and behind "%" one letter is.
func TestWhereWordsEnd(t *testing.T) {
	for b := range 256 {
		s := string([]byte{byte(b)})
		if b >= ' ' && b <= '~' && s != "$" && s != "%" {
			piecesAre(t, "%k"+s, of(2)[0], plain(s))
			piecesAre(t, "%k"+s+"kernel", of(2)[0], plain(s+"kernel"))
		} else {
			noTemplate(t, api.ErrSubstituteForm, "%k"+s)
		}
		switch {
		case b < ' ' || b > '~' || s == "$" || s == "%" || 'a' <= b && b <= 'z':
			noTemplate(t, api.ErrSubstituteForm, "$kernel"+s)
			noTemplate(t, api.ErrSubstituteForm, "$name"+s+"a")
		default:
			piecesAre(t, "$kernel"+s, of(2)[0], plain(s))
			piecesAre(t, "$name"+s+"a", of(11)[0], plain(s+"a"))
		}
	}
	for _, s := range []string{"$kerne", "$k", "$n", "$i", "$idx", "$ids", "$names", "$parents", "$driverid", "$resulta", "$attra{a}", "$envs{K}", "$a", "$Kernel", "$KERNEL", "$kernelkernel", "$devPath"} {
		noTemplate(t, api.ErrSubstituteForm, s)
	}
}

// P9.1: every byte alone, behind "$" and "%", and in braces.
func TestEveryByte(t *testing.T) {
	for b := range 256 {
		s := string([]byte{byte(b)})
		kind := kindsWritten["%"+s]
		switch {
		case s == "%":
			piecesAre(t, "%"+s, plain("%"))
		case kind == api.PieceAttr || kind == api.PieceEnv || kind == 0:
			noTemplate(t, api.ErrSubstituteForm, "%"+s)
			noTemplate(t, api.ErrSubstituteForm, "%"+s+"x")
		default:
			piecesAre(t, "%"+s, of(kind)...)
		}
		if s == "$" {
			piecesAre(t, "$"+s, plain("$"))
		} else {
			noTemplate(t, api.ErrSubstituteForm, "$"+s)
		}
		if s == "$" || s == "%" || b < ' ' || b > '~' {
			noTemplate(t, api.ErrSubstituteForm, s)
			noTemplate(t, api.ErrSubstituteForm, "a"+s+" ")
		} else {
			piecesAre(t, s, plain(s))
			piecesAre(t, "$id-"+s+"a", of(5)[0], plain("-"+s+"a"))
		}
		for _, spelling := range []string{"$attr", "%s", "$env", "%E"} {
			inside := "A" + s + "A"
			template := spelling + "{" + inside + "}"
			switch isAttr := spelling == "$attr" || spelling == "%s"; {
			case s == "}":
				piecesAre(t, template, api.Piece{Kind: kindsWritten[spelling], Text: "A"}, plain("A}"))
			case isAttr && nameBrace.MatchString("{"+inside+"}"):
				piecesAre(t, template, attr(inside))
			case !isAttr && keyBrace.MatchString("{"+inside+"}"):
				piecesAre(t, template, env(inside))
			default:
				noTemplate(t, api.ErrSubstituteForm, template)
			}
		}
	}
}

// P9.1: braces that lack, that are not closed, or that have something else in them.
func TestBraces(t *testing.T) {
	for _, spelling := range []string{"$attr", "%s", "$env", "%E"} {
		for _, behind := range []string{"", "{", "}", "{}", "{K", "{K+", "K}", " {K}", "{{K}}", "{ K}", "{K }", "{.}", "{..}", "{K/L}", "{$kernel}", "{%k}", "{K$$}", "{" + strings.Repeat("K", 33) + "}", "$$", "[K]"} {
			noTemplate(t, api.ErrSubstituteForm, spelling+behind)
			noTemplate(t, api.ErrSubstituteForm, spelling+behind+"%k")
		}
	}
	for _, spelling := range []string{"$env", "%E"} {
		for _, behind := range []string{"{k}", "{1K}", "{_K}", "{Kk}", "{K.}", "{K-}", "{K+}"} {
			noTemplate(t, api.ErrSubstituteForm, spelling+behind)
		}
	}
	for _, spelling := range []string{"$result", "%c"} {
		for _, behind := range []string{"{", "{}", "{+}", "{0}", "{0+}", "{00}", "{01}", "{001}", "{100}", "{100+}", "{1000}", "{-1}", "{-0}", "{+1}", "{1++}", "{1+", "{1", "{1 }", "{ 1}", "{1-}", "{1+2}", "{a}", "{1a}", "{0x1}", "{1_0}", "{1.0}", "{$$}", "{99999999999999999999}", "{{1}}", "{1+ }"} {
			noTemplate(t, api.ErrSubstituteForm, spelling+behind)
			noTemplate(t, api.ErrSubstituteForm, spelling+behind+"%k")
		}
		piecesAre(t, spelling+"}", word(0, false), plain("}"))
		piecesAre(t, spelling+" {1}", word(0, false), plain(" {1}"))
		piecesAre(t, spelling+"$${1}", word(0, false), plain("${1}"))
		piecesAre(t, spelling+"{1}{", word(1, false), plain("{"))
		piecesAre(t, spelling+"{1}+}", word(1, false), plain("+}"))
	}
	// Elsewhere, braces are bytes as any others.
	for kind := api.PieceKernel; kind <= api.PieceName; kind++ {
		if kind == api.PieceAttr || kind == api.PieceEnv || kind == api.PieceResult {
			continue
		}
		piecesAre(t, longWritten[kind]+"{a}", of(kind)[0], plain("{a}"))
		piecesAre(t, longWritten[kind]+"{", of(kind)[0], plain("{"))
		if shortWritten[kind] != "" {
			piecesAre(t, shortWritten[kind]+"{1+}{", of(kind)[0], plain("{1+}{"))
		}
	}
	piecesAre(t, "{}$${a}%%{1}", plain("{}${a}%{1}"))
	piecesAre(t, "$attr{a}{b}$env{K}}", attr("a"), plain("{b}"), env("K"), plain("}"))
}

// P9.1: the greatest lengths, and the limit ahead of the form.
func TestLengths(t *testing.T) {
	longName, longKey := strings.Repeat("n", 32), strings.Repeat("K", 32)
	piecesAre(t, "$attr{"+longName+"}%E{"+longKey+"}", attr(longName), env(longKey))
	full := strings.Repeat("a", 256)
	piecesAre(t, full, plain(full))
	piecesAre(t, strings.Repeat("$", 256), plain(strings.Repeat("$", 128)))
	piecesAre(t, strings.Repeat("%k", 128), slices.Repeat(of(2), 128)...)
	for _, s := range []string{full + "a", strings.Repeat("\n", 257), strings.Repeat("$", 257), strings.Repeat("$", 258), strings.Repeat("%k", 129), full + "$", "\x00" + full, strings.Repeat("é", 129), strings.Repeat("a", 1<<20)} {
		noTemplate(t, api.ErrSubstituteLimit, s)
	}
	for _, s := range []string{strings.Repeat("\n", 256), full[1:] + "$", full[1:] + "%", "\xff" + full[1:], strings.Repeat("é", 128), full[:255] + "\x7f", strings.Repeat("$", 255)} {
		noTemplate(t, api.ErrSubstituteForm, s)
	}
}

// R4: each result is a list of its own.
func TestParseKeepsNothing(t *testing.T) {
	first, _ := substitute.Parse("a%k")
	first[0] = plain("changed")
	_ = append(first[:1], plain("changed"))
	piecesAre(t, "a%k", plain("a"), of(2)[0])
}
