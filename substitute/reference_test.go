package substitute_test

import (
	"fmt"
	"math/rand"
	"regexp"
	"slices"
	"strconv"
	"strings"
	"testing"

	"coldplug/api"
	"coldplug/substitute"
)

// What the chapter says of templates, as patterns for the beginning of what is left of one.
var (
	plainText = regexp.MustCompile(`^[ !"#&-~]+`)
	doubled   = regexp.MustCompile(`^(?:\$\$|%%)`)
	spelled   = regexp.MustCompile(`^(?:\$[a-z]+|%[A-Za-z])`)
	nameBrace = regexp.MustCompile(`^\{([A-Za-z0-9_.:+!-]{1,32})\}`)
	keyBrace  = regexp.MustCompile(`^\{([A-Z][A-Z0-9_]{0,31})\}`)
	wordBrace = regexp.MustCompile(`^\{([1-9][0-9]?)(\+?)\}`)
	textBytes = regexp.MustCompile(`^[ -~]*$`)
)

// kindsWritten are the kinds of pieces by their spellings.
var kindsWritten = map[string]int{
	"$kernel": 2, "$number": 3, "$devpath": 4, "$id": 5, "$driver": 6, "$attr": 7, "$env": 8, "$result": 9, "$parent": 10, "$name": 11,
	"%k": 2, "%n": 3, "%p": 4, "%b": 5, "%d": 6, "%s": 7, "%E": 8, "%c": 9, "%P": 10,
}

// longWritten and shortWritten are the spellings by kind.
var (
	longWritten  = [...]string{2: "$kernel", 3: "$number", 4: "$devpath", 5: "$id", 6: "$driver", 7: "$attr", 8: "$env", 9: "$result", 10: "$parent", 11: "$name"}
	shortWritten = [...]string{2: "%k", 3: "%n", 4: "%p", 5: "%b", 6: "%d", 7: "%s", 8: "%E", 9: "%c", 10: "%P", 11: ""}
)

// piecesOf returns the pieces of a template and the error.
func piecesOf(s string) ([]api.Piece, api.Errno) {
	if len(s) > api.MaxText {
		return nil, api.ErrSubstituteLimit
	}
	var list []api.Piece
	for s != "" {
		var p api.Piece
		plain, twice, word := plainText.FindString(s), doubled.FindString(s), spelled.FindString(s)
		s = s[len(plain+twice):]
		if plain+twice != "" {
			plain += twice[:len(twice)/2]
			if n := len(list); n > 0 && list[n-1].Kind == api.PieceText {
				list[n-1].Text += plain
			} else {
				list = append(list, api.Piece{Kind: api.PieceText, Text: plain})
			}
			continue
		}
		s = s[len(word):]
		p.Kind = kindsWritten[word]
		var brace []string
		switch {
		case p.Kind == api.PieceAttr:
			brace = nameBrace.FindStringSubmatch(s)
		case p.Kind == api.PieceEnv:
			brace = keyBrace.FindStringSubmatch(s)
		case p.Kind == api.PieceResult && strings.HasPrefix(s, "{"):
			brace = wordBrace.FindStringSubmatch(s)
		case p.Kind != 0:
			brace = []string{"", ""}
		}
		if brace == nil || brace[1] == "." || brace[1] == ".." {
			return nil, api.ErrSubstituteForm
		}
		if p.Kind == api.PieceResult {
			p.Word, _ = strconv.Atoi(brace[1])
			p.More = strings.HasSuffix(brace[0], "+}")
		} else {
			p.Text = brace[1]
		}
		s = s[len(brace[0]):]
		list = append(list, p)
	}
	return list, api.OK
}

// rightPiece reports whether a piece is as in the table.
func rightPiece(p api.Piece) bool {
	braces := "{" + p.Text + "}"
	switch p.Kind {
	case api.PieceText:
		return p == api.Piece{Kind: p.Kind, Text: p.Text} && p.Text != "" && textBytes.MatchString(p.Text)
	case api.PieceAttr:
		return p == api.Piece{Kind: p.Kind, Text: p.Text} && nameBrace.FindString(braces) == braces && p.Text != "." && p.Text != ".."
	case api.PieceEnv:
		return p == api.Piece{Kind: p.Kind, Text: p.Text} && keyBrace.FindString(braces) == braces
	case api.PieceResult:
		return p == api.Piece{Kind: p.Kind, Word: p.Word, More: p.More} && (p.Word == 0 && !p.More || p.Word >= 1 && p.Word <= 99)
	}
	return p == api.Piece{Kind: p.Kind} && slices.Contains([]int{2, 3, 4, 5, 6, 10, 11}, p.Kind)
}

// templateOf returns the template with these pieces and the error.
func templateOf(l []api.Piece) (string, api.Errno) {
	s, err := "", api.OK
	for i, p := range l {
		if !rightPiece(p) {
			return "", api.ErrSubstituteForm
		}
		next := ""
		if i+1 < len(l) && l[i+1].Kind == api.PieceText {
			next = l[i+1].Text
		}
		small := next != "" && "a" <= next[:1] && next[:1] <= "z"
		if p.Kind == api.PieceText && next != "" || p.Kind == api.PieceName && small || p.Kind == api.PieceResult && p.Word == 0 && strings.HasPrefix(next, "{") {
			err = api.ErrSubstituteForm
			continue
		}
		switch {
		case p.Kind == api.PieceText:
			for _, r := range p.Text {
				s += string(r)
				if r == '$' || r == '%' {
					s += string(r)
				}
			}
		case p.Kind == api.PieceAttr || p.Kind == api.PieceEnv:
			s += fmt.Sprintf("%s{%s}", longWritten[p.Kind], p.Text)
		case p.Word > 0 && p.More:
			s += fmt.Sprintf("$result{%d+}", p.Word)
		case p.Word > 0:
			s += fmt.Sprintf("$result{%d}", p.Word)
		case small:
			s += shortWritten[p.Kind]
		default:
			s += longWritten[p.Kind]
		}
	}
	if err == api.OK && len(s) > api.MaxText {
		err = api.ErrSubstituteLimit
	}
	if err != api.OK {
		s = ""
	}
	return s, err
}

// firstWith returns the value of the first attribute with a name in a few lists.
func firstWith(name string, lists ...[]api.Attr) string {
	for _, a := range slices.Concat(lists...) {
		if a.Name == name {
			return a.Value
		}
	}
	return ""
}

// textOf returns the text of a template and the error.
func textOf(s string, v api.Values) (string, api.Errno) {
	list, err := piecesOf(s)
	words := strings.FieldsFunc(v.Result, func(r rune) bool { return r == ' ' })
	text := ""
	for _, p := range list {
		from := words[min(max(p.Word-1, 0), len(words)):]
		switch p.Kind {
		case api.PieceText:
			text += p.Text
		case api.PieceKernel:
			text += v.Kernel
		case api.PieceNumber:
			text += regexp.MustCompile(`[0-9]*$`).FindString(v.Kernel)
		case api.PieceDevpath:
			text += v.Devpath
		case api.PieceID:
			text += v.ID
		case api.PieceDriver:
			text += v.Driver
		case api.PieceAttr:
			text += firstWith(p.Text, v.Attrs, v.Above)
		case api.PieceEnv:
			text += firstWith(p.Text, v.Env)
		case api.PieceResult:
			if p.Word == 0 {
				text += v.Result
			} else if p.More {
				text += strings.Join(from, " ")
			} else if len(from) > 0 {
				text += from[0]
			}
		case api.PieceParent:
			text += v.Parent
		case api.PieceName:
			text += v.Name
		}
	}
	return text[:min(len(text), api.MaxText)], err
}

// agree checks all functions for a template against the reference, and the way back; it returns the error.
func agree(t *testing.T, s string, v api.Values) api.Errno {
	t.Helper()
	want, err := piecesOf(s)
	got, e := substitute.Parse(s)
	if !slices.Equal(got, want) || e != err || e != api.OK && got != nil {
		t.Fatalf("Parse(%q): got %+v and %d, want %+v and %d", s, got, e, want, err)
	}
	if e := substitute.Check(s); e != err {
		t.Fatalf("Check(%q): got %d, want %d", s, e, err)
	}
	text, _ := textOf(s, v)
	if x, e := substitute.Expand(s, v); x != text || e != err {
		t.Fatalf("Expand(%q, %+v): got %q and %d, want %q and %d", s, v, x, e, text, err)
	}
	if err == api.OK {
		formatAgrees(t, got)
	}
	return err
}

// formatAgrees checks Format against the reference, and the way back; it returns the error.
func formatAgrees(t *testing.T, l []api.Piece) api.Errno {
	t.Helper()
	want, err := templateOf(l)
	got, e := substitute.Format(l)
	if got != want || e != err {
		t.Fatalf("Format(%+v): got %q and %d, want %q and %d", l, got, e, want, err)
	}
	if err == api.OK {
		if back, e := substitute.Parse(got); !slices.Equal(back, l) || e != api.OK {
			t.Fatalf("Parse(%q): got %+v and %d, want %+v", got, back, e, l)
		}
	}
	return err
}

// allTexts calls a function for all sequences of at most so many parts.
func allTexts(parts []string, most int, call func(s string)) {
	call("")
	if most == 0 {
		return
	}
	for _, part := range parts {
		allTexts(parts, most-1, func(s string) { call(part + s) })
	}
}

// sample returns values that are all different.
func sample() api.Values {
	return api.Values{
		Kernel: "sda12", Devpath: "/p/sda12", ID: "usb1", Driver: "sd", Parent: "sda", Name: "given", Result: "a  b c ",
		Attrs: []api.Attr{{Name: "x", Value: "1"}, {Name: "x", Value: "2"}, {Name: "e"}, {Name: "1", Value: "one"}},
		Above: []api.Attr{{Name: "x", Value: "3"}, {Name: "y", Value: "4"}, {Name: "e", Value: "5"}, {Name: "K", Value: "6"}},
		Env:   []api.Attr{{Name: "K", Value: "7"}, {Name: "K", Value: "8"}, {Name: "x", Value: "9"}},
	}
}

// enough checks that each of the errors was met at least so often.
func enough(t *testing.T, met map[api.Errno]int, least int, errors ...api.Errno) {
	t.Helper()
	for _, err := range errors {
		if met[err] < least {
			t.Errorf("error %d was met %d times only", err, met[err])
		}
	}
}

// madePiece returns a random piece that is right.
func madePiece(random *rand.Rand) api.Piece {
	pick := func(members string, n int) string {
		b := make([]byte, n)
		for i := range b {
			b[i] = members[random.Intn(len(members))]
		}
		return string(b)
	}
	p := api.Piece{Kind: 1 + random.Intn(11)}
	switch p.Kind {
	case api.PieceText:
		p.Text = pick("aZ1 $%{}+~", 1+random.Intn(9))
	case api.PieceAttr:
		p.Text = "x" + pick("ay.:+!-_9", random.Intn(5))
	case api.PieceEnv:
		p.Text = "K" + pick("AZ_09", random.Intn(5))
	case api.PieceResult:
		p.Word = random.Intn(3) * random.Intn(50)
		p.More = p.Word > 0 && random.Intn(2) == 0
	}
	return p
}

// madeList returns random pieces, most of which can be neighbours.
func madeList(random *rand.Rand, n int) []api.Piece {
	var list []api.Piece
	for range n {
		p := madePiece(random)
		if i := len(list) - 1; i >= 0 && p.Kind == api.PieceText && list[i].Kind == api.PieceText {
			continue
		}
		list = append(list, p)
	}
	return list
}

// P9.1, P9.3: all short sequences of what templates consist of.
func TestAllShortTemplates(t *testing.T) {
	met := map[api.Errno]int{}
	for _, c := range []struct {
		parts []string
		most  int
	}{
		{[]string{"$", "%", "k", "{", "}", "x", "\n"}, 6},
		{[]string{"$kernel", "%n", "$id", "%b", "$name", "%P", "$", "%", "s", "{x}", "A"}, 4},
		{[]string{"$attr", "%s", "{", "}", "x", "K", ".", "/", " "}, 5},
		{[]string{"$env", "%E", "{", "}", "K", "1", "x", "_"}, 5},
		{[]string{"$result", "%c", "{", "}", "+", "1", "0", "2"}, 6},
		{[]string{"%c{", "$result{", "}", "+", "1", "9", "-", " "}, 6},
	} {
		allTexts(c.parts, c.most, func(s string) { met[agree(t, s, sample())]++ })
	}
	enough(t, met, 2000, api.OK, api.ErrSubstituteForm)
}

// P9.1, P9.3: templates of random pieces, with bytes put in, left out or changed at every place.
func TestChangedTemplates(t *testing.T) {
	random := rand.New(rand.NewSource(9))
	met := map[api.Errno]int{}
	for range 300 {
		s, err := templateOf(madeList(random, random.Intn(6)))
		if err != api.OK {
			continue
		}
		for at := range len(s) + 1 {
			texts := []string{s, s[:at], s[at:], s[:at] + s[min(at+1, len(s)):], s[:at] + s[at/2:], strings.Repeat(s, 1+at%9)}
			for _, b := range []string{"$", "%", "{", "}", "+", "a", "k", "K", "0", "1", " ", "\t", "\x7f", "é"} {
				texts = append(texts, s[:at]+b+s[at:], s[:at]+b+s[min(at+1, len(s)):])
			}
			for _, changed := range texts {
				met[agree(t, changed, sample())]++
			}
		}
	}
	enough(t, met, 300, api.OK, api.ErrSubstituteForm, api.ErrSubstituteLimit)
}

// P9.2: random pieces, some of them with a flaw, in lists that are too long for a template, too.
func TestRandomPieces(t *testing.T) {
	random := rand.New(rand.NewSource(90))
	met := map[api.Errno]int{}
	for range 20000 {
		list := madeList(random, random.Intn(5)*random.Intn(20))
		if len(list) > 0 && random.Intn(3) == 0 {
			spoil := &list[random.Intn(len(list))]
			switch random.Intn(4) {
			case 0:
				spoil.Kind = random.Intn(14) - 1
			case 1:
				spoil.Text = []string{"", "a", "K", ".", "..", "a/b", "\t", "é", "{"}[random.Intn(9)]
			case 2:
				spoil.Word = random.Intn(103) - 1
			case 3:
				spoil.More = !spoil.More
			}
		}
		met[formatAgrees(t, list)]++
	}
	enough(t, met, 1000, api.OK, api.ErrSubstituteForm, api.ErrSubstituteLimit)
}

// P9.2: all pairs and triples of pieces that matter to each other.
func TestNeighbours(t *testing.T) {
	all := []api.Piece{{Kind: api.PieceAttr, Text: "a"}, {Kind: api.PieceEnv, Text: "K"}, {Kind: api.PieceResult, Word: 1}, {Kind: api.PieceResult, Word: 2, More: true}}
	for _, kind := range []int{2, 3, 4, 5, 6, 9, 10, 11} {
		all = append(all, api.Piece{Kind: kind})
	}
	for _, text := range []string{"a", "z", "`", "{", "}", "A", "Z", "0", "$", "%", " ", "$a", "{a", "k", "s"} {
		all = append(all, api.Piece{Kind: api.PieceText, Text: text})
	}
	met := map[api.Errno]int{}
	for _, p := range all {
		for _, q := range all {
			met[formatAgrees(t, []api.Piece{p, q})]++
			for _, r := range all {
				met[formatAgrees(t, []api.Piece{p, q, r})]++
			}
		}
	}
	enough(t, met, 500, api.OK, api.ErrSubstituteForm)
}
