package lex

import (
	"bytes"
	"slices"
	"strings"
	"testing"

	"reverie/api"
)

func open(at int) api.Token { return api.Token{Kind: api.OpenTok, Pos: at, Text: "("} }
func shut(at int) api.Token { return api.Token{Kind: api.CloseTok, Pos: at, Text: ")"} }
func num(at int, text string, n int64) api.Token {
	return api.Token{Kind: api.IntTok, Pos: at, Text: text, Int: n}
}
func name(at int, text string) api.Token {
	return api.Token{Kind: api.NameTok, Pos: at, Text: text}
}
func con(at int, text string) api.Token { return api.Token{Kind: api.ConTok, Pos: at, Text: text} }
func sym(at int, text string) api.Token { return api.Token{Kind: api.SymTok, Pos: at, Text: text} }

func check(t *testing.T, s string, want []api.Token) {
	t.Helper()
	if l, at, e := Tokens([]byte(s)); e != api.OK || at != -1 || !slices.Equal(l, want) {
		t.Errorf("%q: %v %d %d, not %v", s, l, at, e, want)
	}
}

func checkWrong(t *testing.T, s string, want int) {
	t.Helper()
	if l, at, e := Tokens([]byte(s)); e != api.ErrLex || at != want || len(l) != 0 {
		t.Errorf("%q: %v %d %d, not ErrLex at %d", s, l, at, e, want)
	}
}

func TestKinds(t *testing.T) {
	check(t, "(f -3)", []api.Token{open(0), name(1, "f"), num(3, "-3", -3), shut(5)})
	check(t, "(def main () (+ 40 2))", []api.Token{open(0), name(1, "def"), name(5, "main"), open(10), shut(11),
		open(13), sym(14, "+"), num(16, "40", 40), num(19, "2", 2), shut(20), shut(21)})
	check(t, "(-> A b)", []api.Token{open(0), sym(1, "->"), con(4, "A"), name(6, "b"), shut(7)})
	for _, c := range "_+-*/%=<" {
		check(t, string(c), []api.Token{sym(0, string(c))})
		check(t, string(c)+string(c), []api.Token{sym(0, string(c)), sym(1, string(c))})
	}
}

func TestAsManyBytesAsCanBelong(t *testing.T) {
	check(t, "aB9'z''", []api.Token{name(0, "aB9'z''")})
	check(t, "Ab9'Z'", []api.Token{con(0, "Ab9'Z'")})
	check(t, "a", []api.Token{name(0, "a")})
	check(t, "z", []api.Token{name(0, "z")})
	check(t, "A", []api.Token{con(0, "A")})
	check(t, "Z", []api.Token{con(0, "Z")})
	check(t, "x_y", []api.Token{name(0, "x"), sym(1, "_"), name(2, "y")})
	check(t, "_1", []api.Token{sym(0, "_"), num(1, "1", 1)})
	check(t, "x-1", []api.Token{name(0, "x"), num(1, "-1", -1)})
	check(t, "x->y", []api.Token{name(0, "x"), sym(1, "->"), name(3, "y")})
	check(t, "-->", []api.Token{sym(0, "-"), sym(1, "->")})
	check(t, "->->", []api.Token{sym(0, "->"), sym(2, "->")})
	check(t, "--1", []api.Token{sym(0, "-"), num(1, "-1", -1)})
	check(t, "->1", []api.Token{sym(0, "->"), num(2, "1", 1)})
	check(t, "->-1", []api.Token{sym(0, "->"), num(2, "-1", -1)})
	check(t, "- 1", []api.Token{sym(0, "-"), num(2, "1", 1)})
	check(t, "1-2", []api.Token{num(0, "1", 1), num(1, "-2", -2)})
	check(t, "-1-", []api.Token{num(0, "-1", -1), sym(2, "-")})
	check(t, "1_", []api.Token{num(0, "1", 1), sym(1, "_")})
	check(t, "1(2)x", []api.Token{num(0, "1", 1), open(1), num(2, "2", 2), shut(3), name(4, "x")})
}

func TestNumbers(t *testing.T) {
	check(t, "0", []api.Token{num(0, "0", 0)})
	check(t, "-0", []api.Token{num(0, "-0", 0)})
	check(t, "007", []api.Token{num(0, "007", 7)})
	check(t, "-0010", []api.Token{num(0, "-0010", -10)})
	check(t, "999999999999999999", []api.Token{num(0, "999999999999999999", 999999999999999999)})
	check(t, "-999999999999999999", []api.Token{num(0, "-999999999999999999", -999999999999999999)})
	check(t, "000000000000000001", []api.Token{num(0, "000000000000000001", 1)})
	checkWrong(t, "1000000000000000000", 0)
	checkWrong(t, "-1000000000000000000", 0)
	checkWrong(t, "0000000000000000001", 0)
	checkWrong(t, "x (-0000000000000000001)", 3)
	checkWrong(t, strings.Repeat("9", api.MaxSource), 0)
	for _, c := range "azAZ'" {
		checkWrong(t, "1"+string(c), 0)
		checkWrong(t, "  -1"+string(c)+" ", 2)
		checkWrong(t, "-"+strings.Repeat("1", 18)+string(c), 0)
	}
}

func TestBlanksAndNotes(t *testing.T) {
	check(t, "", nil)
	check(t, " \n\t\r", nil)
	check(t, ";", nil)
	check(t, ";\n", nil)
	check(t, "; (def x", nil)
	check(t, ";;; \x00\xff@ä 12x \r;\n;\n\n", nil)
	check(t, " \n\t\rx\r\t\n ", []api.Token{name(4, "x")})
	check(t, ";x\ny", []api.Token{name(3, "y")})
	check(t, ";x\ry\nz", []api.Token{name(5, "z")})
	check(t, "x;y;z\n; u\n  v;", []api.Token{name(0, "x"), name(12, "v")})
	check(t, "12;3\n4", []api.Token{num(0, "12", 12), num(5, "4", 4)})
	check(t, "-;\n1", []api.Token{sym(0, "-"), num(3, "1", 1)})
	checkWrong(t, "-;\n>", 3)
	checkWrong(t, "; x\n@", 4)
}

// begun is the kind of the tokens that begin with each byte that begins one.
func begun() map[byte]int {
	kinds := map[byte]int{'(': api.OpenTok, ')': api.CloseTok}
	for _, c := range []byte("_+-*/%=<") {
		kinds[c] = api.SymTok
	}
	for c := byte('0'); c <= '9'; c++ {
		kinds[c] = api.IntTok
	}
	for c := byte('a'); c <= 'z'; c++ {
		kinds[c] = api.NameTok
		kinds[c-'a'+'A'] = api.ConTok
	}
	return kinds
}

func TestEachByteAlone(t *testing.T) {
	kinds := begun()
	for i := range 256 {
		c := byte(i)
		l, at, e := Tokens([]byte{c})
		kind, begins := kinds[c]
		switch {
		case begins:
			if e != api.OK || at != -1 || len(l) != 1 || l[0].Kind != kind || l[0].Pos != 0 || l[0].Text != string(rune(c)) {
				t.Error(c, l, at, e)
			}
		case c == ' ' || c == '\n' || c == '\t' || c == '\r' || c == ';':
			if e != api.OK || at != -1 || len(l) != 0 {
				t.Error(c, l, at, e)
			}
		default:
			if e != api.ErrLex || at != 0 || len(l) != 0 {
				t.Error(c, l, at, e)
			}
		}
	}
}

func TestFirstWrongPlace(t *testing.T) {
	checkWrong(t, "a @ # 12x", 2)
	checkWrong(t, "12x @", 0)
	checkWrong(t, "'a", 0)
	checkWrong(t, "_'", 1)
	checkWrong(t, "x\x00", 1)
	checkWrong(t, "\x00", 0)
	checkWrong(t, "1\x00", 1)
	checkWrong(t, "1ä", 1)
	checkWrong(t, "xä", 1)
	checkWrong(t, "x>", 1)
	checkWrong(t, "- >", 2)
	checkWrong(t, "\v", 0)
	checkWrong(t, "\f", 0)
	checkWrong(t, "x \u00a0", 2)
	checkWrong(t, "(a . b)", 3)
}

func TestLongestText(t *testing.T) {
	most := strings.Repeat("x ", api.MaxSource/2)
	if l, at, e := Tokens([]byte(most)); len(l) != api.MaxSource/2 || at != -1 || e != api.OK {
		t.Error(len(l), at, e)
	}
	word := strings.Repeat("x", api.MaxSource)
	check(t, word, []api.Token{name(0, word)})
	check(t, ";"+word[1:], nil)
	checkWrong(t, word[1:]+"@", api.MaxSource-1)
	for _, s := range []string{word + "x", most + " ", most + ";", "@" + word, "1x" + most, most + "@", most + most} {
		checkWrong(t, s, api.MaxSource)
	}
}

func among(set string, c byte) bool { return strings.IndexByte(set, c) >= 0 }

const (
	digitBytes  = "0123456789"
	letterBytes = "abcdefghijklmnopqrstuvwxyzABCDEFGHIJKLMNOPQRSTUVWXYZ"
	wordBytes   = digitBytes + letterBytes + "'"
)

// whole tells whether all of a text is one token, by the words of the document; of a number without what stands behind it.
func whole(s string) bool {
	if s == "->" || len(s) == 1 && among("()_+-*/%=<", s[0]) {
		return true
	}
	set, rest := wordBytes, s[1:]
	if d := strings.TrimPrefix(s, "-"); d != "" && among(digitBytes, d[0]) {
		if len(d) > 18 {
			return false
		}
		set, rest = digitBytes, d
	} else if !among(letterBytes, s[0]) {
		return false
	}
	for i := range len(rest) {
		if !among(set, rest[i]) {
			return false
		}
	}
	return true
}

// isNumber tells whether a number begins a text, right or wrong.
func isNumber(s string) bool {
	d := strings.TrimPrefix(s, "-")
	return d != "" && among(digitBytes, d[0])
}

// longest is how many bytes the token has that begins a text; 0: none does.
func longest(s string) int {
	for n := len(s); n > 0; n-- {
		if whole(s[:n]) {
			if isNumber(s) && n < len(s) && among(wordBytes, s[n]) {
				return 0
			}
			return n
		}
	}
	return 0
}

// slow is the texts and the places of a text's tokens, and the first place at which nothing begins, -1 if there is none.
func slow(s string) (texts []string, places []int, wrong int) {
	for i := 0; i < len(s); {
		if among(" \n\t\r", s[i]) {
			i++
			continue
		}
		if s[i] == ';' {
			for i < len(s) && s[i] != '\n' {
				i++
			}
			continue
		}
		n := longest(s[i:])
		if n == 0 {
			return nil, nil, i
		}
		texts, places = append(texts, s[i:i+n]), append(places, i)
		i += n
	}
	return texts, places, -1
}

func checkSlow(t *testing.T, s string) {
	t.Helper()
	texts, places, wrong := slow(s)
	l, at, e := Tokens([]byte(s))
	if at != wrong || (e == api.OK) != (wrong < 0) || e != api.OK && e != api.ErrLex || len(l) != len(texts) {
		t.Fatalf("%q: %v %d %d, not %q at %v, %d", s, l, at, e, texts, places, wrong)
	}
	for i, k := range l {
		if k.Text != texts[i] || k.Pos != places[i] {
			t.Fatalf("%q: %v, not %q at %v", s, l, texts, places)
		}
	}
}

// TestAllShortTexts holds each text of up to five bytes, one of each kind among them, against the document's words.
func TestAllShortTexts(t *testing.T) {
	const bytesOfAllKinds = "()->1aA'_; \n@"
	texts := []string{""}
	for range 5 {
		var longer []string
		for _, s := range texts {
			checkSlow(t, s)
			for _, c := range bytesOfAllKinds {
				longer = append(longer, s+string(c))
			}
		}
		texts = longer
	}
	for _, s := range texts {
		checkSlow(t, s)
	}
}

func TestAllPairsOfBytes(t *testing.T) {
	for i := range 256 * 256 {
		checkSlow(t, string([]byte{byte(i), byte(i / 256)}))
	}
}

// TestMixedTexts goes through long texts that a short rule mixes.
func TestMixedTexts(t *testing.T) {
	parts := []string{"(", ")", "->", "-", "12", "x", "Cons", "'", "_", "; n\n", " ", "\n", "123456789", "=", "\r\t"}
	state := uint32(1)
	for range 3000 {
		var b strings.Builder
		for range 1 + state>>8%200 {
			state = state*1664525 + 1013904223
			b.WriteString(parts[int(state>>16)%len(parts)])
		}
		s := b.String()
		if len(s) <= api.MaxSource {
			checkSlow(t, s)
		}
	}
}

// TestBlanksDontMatter lays blanks and notes between tokens, and asks for the same tokens but for their places.
func TestBlanksDontMatter(t *testing.T) {
	words := []string{"(", "def", "f'", "(", "x", "y1", ")", "(", "+", "-12", "-", "(", "->", "Just", "_", ")", "7", "<", ")", ")"}
	plain, _, e := Tokens([]byte(strings.Join(words, " ")))
	if e != api.OK || len(plain) != len(words) {
		t.Fatal(plain, e)
	}
	for _, gap := range []string{"  ", "\n", "\t", "\r", ";\n", " ; (def @ 12x\n", ";;\n;\n\r\n\t", "; ä\x00\n "} {
		s := gap + strings.Join(words, gap) + gap
		l, at, e := Tokens([]byte(s))
		if e != api.OK || at != -1 || len(l) != len(plain) {
			t.Fatalf("%q: %v %d %d", s, l, at, e)
		}
		for i, k := range l {
			if !strings.HasPrefix(s[k.Pos:], k.Text) {
				t.Errorf("%q: %v isn't at its place", s, k)
			}
			k.Pos = plain[i].Pos
			if k != plain[i] {
				t.Errorf("%q: %v, not %v", s, k, plain[i])
			}
		}
	}
	check(t, "(f(g 1)2)", []api.Token{open(0), name(1, "f"), open(2), name(3, "g"), num(5, "1", 1), shut(6), num(7, "2", 2), shut(8)})
}

func TestWhatIsGivenIsLeft(t *testing.T) {
	all := []byte("(f 123456 x")
	s := all[:6]
	before := bytes.Clone(all)
	want := []api.Token{open(0), name(1, "f"), num(3, "123", 123)}
	l, at, e := Tokens(s)
	if e != api.OK || at != -1 || !slices.Equal(l, want) {
		t.Fatal("what lies behind the length was read:", l, at, e)
	}
	if !bytes.Equal(all, before) {
		t.Error("what was given was changed:", all)
	}
	clear(all)
	if !slices.Equal(l, want) {
		t.Error("what was given was kept:", l)
	}
}

func TestSameAnswerEachTime(t *testing.T) {
	texts := []string{"", "(f -3)", "a @", "x ; y", "12x", strings.Repeat(" ", api.MaxSource+1)}
	type answer struct {
		l  []api.Token
		at int
		e  api.Errno
	}
	var first []answer
	for _, s := range texts {
		l, at, e := Tokens([]byte(s))
		first = append(first, answer{l, at, e})
	}
	for i := len(texts) - 1; i >= 0; i-- {
		l, at, e := Tokens([]byte(texts[i]))
		if f := first[i]; at != f.at || e != f.e || !slices.Equal(l, f.l) {
			t.Error(i, l, at, e, f)
		}
		for j := range l {
			l[j] = api.Token{}
		}
	}
	check(t, "(f -3)", first[1].l)
}
