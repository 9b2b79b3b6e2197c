package lex_test

import (
	"math/big"
	"regexp"
	"slices"
	"strings"
	"testing"
	"unicode/utf8"

	"sextant/api"
	"sextant/lex"
)

// words and signs are written out once more here, so that a slip in the package's own lists is seen.
var (
	words = strings.Fields("shared thread let load store xchg fadd cas fence print if else while rlx acq rel acqrel sc")
	signs = strings.Fields("<< >> == != <= >= + - * & ^ | ~ ! < > = ( ) [ ] { } , ;")
)

// The forms of the model: Go's regular expressions take the first of several that fits.
var (
	blankForm  = regexp.MustCompile(`^[ \t\r\n]`)
	remarkForm = regexp.MustCompile(`^//[^\n]*`)
	nameForm   = regexp.MustCompile(`^[A-Za-z_\x{3b1}-\x{3c9}][A-Za-z_\x{3b1}-\x{3c9}0-9]*`)
	hexForm    = regexp.MustCompile(`^0[xX][0-9A-Fa-f]*`)
	tenForm    = regexp.MustCompile(`^[0-9]+`)
	signForm   = regexp.MustCompile(`^(<<|>>|==|!=|<=|>=|[-+*&^|~!<>=()\[\]{},;])`)
	betweenAll = regexp.MustCompile(`^([ \t\r\n]|//[^\n]*\n)*$`)
	behindAll  = regexp.MustCompile(`^([ \t\r\n]|//[^\n]*\n)*(//[^\n]*)?$`)
)

func elex(line, col int) api.Fault { return api.Fault{Code: api.ELEX, Line: line, Col: col} }

// behind is the place behind a text that begins at a place.
func behind(text string, line, col int) (int, int) {
	if k := strings.Count(text, "\n"); k > 0 {
		return line + k, 1 + utf8.RuneCountInString(text[strings.LastIndex(text, "\n")+1:])
	}
	return line, col + utf8.RuneCountInString(text)
}

// model cuts a text by the chapter's words, with regular expressions.
func model(text string) ([]lex.Token, api.Fault) {
	line, col := 1, 1
	var out []lex.Token
	for text != "" {
		t, size, ok := modelToken(text)
		at, why := modelFault(text, t, size, ok)
		if why {
			l, c := behind(text[:at], line, col)
			return nil, elex(l, c)
		}
		if t.Kind != 0 {
			t.Line, t.Col = line, col
			out = append(out, t)
		}
		line, col = behind(text[:size], line, col)
		text = text[size:]
	}
	return append(out, lex.Token{Kind: lex.End, Line: line, Col: col}), api.Fault{}
}

// modelToken is the token (Kind 0: a blank or a remark) that a text begins with.
func modelToken(text string) (t lex.Token, size int, ok bool) {
	forms := []*regexp.Regexp{blankForm, remarkForm, nameForm, hexForm, tenForm, signForm}
	for i, kind := range []int{0, 0, lex.Name, lex.Number, lex.Number, lex.Sign} {
		piece := forms[i].FindString(text)
		if piece == "" {
			continue
		}
		if slices.Contains(words, piece) {
			kind = lex.Word
		}
		if kind != 0 {
			t = lex.Token{Kind: kind, Text: piece}
		}
		if kind == lex.Number {
			t.Val = value(piece).Uint64()
		}
		return t, len(piece), true
	}
	return lex.Token{}, 0, false
}

// modelFault tells how many bytes ahead in the text a fault is, if there is one.
func modelFault(text string, t lex.Token, size int, ok bool) (int, bool) {
	if !ok {
		return 0, true
	}
	if t.Kind == lex.Number {
		switch {
		case strings.EqualFold(t.Text, "0x"):
			return 2, true
		case value(t.Text).BitLen() > 64:
			return 0, true
		case nameForm.MatchString(text[size:]):
			return size, true
		}
	}
	for i := 0; i < size; {
		n := shape(text[i:size])
		if n == 0 {
			return i, true
		}
		i += n
	}
	return 0, false
}

// value is that of a number's text.
func value(text string) *big.Int {
	base := 10
	if hexForm.MatchString(text) {
		base, text = 16, "0"+text[2:]
	}
	v, _ := new(big.Int).SetString(text, base)
	return v
}

// shape is the length of the rune that bytes begin with, by Unicode's table of well-formed sequences; 0, if there is none.
func shape(s string) int {
	in := func(i int, low, high byte) bool { return i < len(s) && low <= s[i] && s[i] <= high }
	low, high := byte(0x80), byte(0xbf)
	switch {
	case in(0, 0, 0x7f):
		return 1
	case in(0, 0xc2, 0xdf):
		if in(1, low, high) {
			return 2
		}
	case in(0, 0xe0, 0xef):
		switch s[0] {
		case 0xe0:
			low = 0xa0
		case 0xed:
			high = 0x9f
		}
		if in(1, low, high) && in(2, 0x80, 0xbf) {
			return 3
		}
	case in(0, 0xf0, 0xf4):
		switch s[0] {
		case 0xf0:
			low = 0x90
		case 0xf4:
			high = 0x8f
		}
		if in(1, low, high) && in(2, 0x80, 0xbf) && in(3, 0x80, 0xbf) {
			return 4
		}
	}
	return 0
}

// hold holds what Lex tells of a text against the model, and tells it.
func hold(t *testing.T, text string) ([]lex.Token, api.Fault) {
	t.Helper()
	want, fault := model(text)
	got, f := lex.Lex([]byte(text))
	if f != fault || !slices.Equal(got, want) {
		t.Fatalf("P5.1 to P5.4: %q: %v, %v; want %v, %v", text, got, f, want, fault)
	}
	return got, f
}

// refused holds a text against the place where it is to be refused.
func refused(t *testing.T, text string, line, col int) {
	t.Helper()
	if l, f := lex.Lex([]byte(text)); len(l) != 0 || f != elex(line, col) {
		t.Errorf("P5.2, R2: %q: %v, %v; want ELEX %d %d alone", text, l, f, line, col)
	}
}

// taken holds a text against its tokens: name, word, number and sign, and where it ends.
func taken(t *testing.T, text string, line, col int, want ...lex.Token) {
	t.Helper()
	l, f := lex.Lex([]byte(text))
	if want = append(want, lex.Token{Kind: lex.End, Line: line, Col: col}); f != (api.Fault{}) || !slices.Equal(l, want) {
		t.Errorf("%q: %v, %v; want %v", text, l, f, want)
	}
}

func name(s string, line, col int) lex.Token {
	return lex.Token{Kind: lex.Name, Text: s, Line: line, Col: col}
}

func word(s string, line, col int) lex.Token {
	return lex.Token{Kind: lex.Word, Text: s, Line: line, Col: col}
}

func sign(s string, line, col int) lex.Token {
	return lex.Token{Kind: lex.Sign, Text: s, Line: line, Col: col}
}

func number(s string, val uint64, line, col int) lex.Token {
	return lex.Token{Kind: lex.Number, Text: s, Val: val, Line: line, Col: col}
}

// pieces are put together to texts: of each kind, and of each fault, some.
var pieces = []string{
	"a", "α", "0", "9", "x", "F", "sc", "<", "=", "!", "/", "//", " ", "\n", "\r", "é", "\xce", "\xb1", "\uFFFD", "0x", "18446744073709551615", "fence",
}

// texts are all of up to three pieces, and longer ones.
func texts(yield func(string)) {
	yield("")
	for _, a := range pieces {
		yield(a)
		for _, b := range pieces {
			yield(a + b)
			for _, c := range pieces {
				yield(a + b + c)
			}
		}
	}
	roll := dice(5)
	for range 20000 {
		var s strings.Builder
		for range roll(12) + 4 {
			s.WriteString(pieces[roll(len(pieces))])
			if roll(3) == 0 {
				s.WriteString(" \t\n"[roll(3):][:1])
			}
		}
		yield(s.String())
	}
	for range 5000 {
		yield(program(roll))
	}
}

// program is a text without a fault, or with one far behind.
func program(roll func(int) int) string {
	good := []string{"x", "β2", "while", "acqrel", "007", "0xfF", "18446744073709551615", "<<", "<", "=", ";", "~", "!", "-", "  ", "\t", "\r\n", "// wörd \U0001F600\n", "//\n", "\n"}
	var s strings.Builder
	for range roll(60) {
		s.WriteString(good[roll(len(good))])
		s.WriteString([]string{" ", "\n", "\t"}[roll(3)])
	}
	switch roll(4) {
	case 0:
		s.WriteString([]string{"$", "0x", "9_", "/ ", "// \xff", "\xed\xa0\x80", "18446744073709551616"}[roll(7)])
	case 1:
		s.WriteString("// the end")
	}
	return s.String()
}

// dice gives numbers from 0 to n - 1 that look like chance and are the same in each run.
func dice(seed uint64) func(n int) int {
	return func(n int) int {
		seed += 0x9e3779b97f4a7c15
		z := (seed ^ seed>>30) * 0xbf58476d1ce4e5b9
		z = (z ^ z>>27) * 0x94d049bb133111eb
		return int((z ^ z>>31) % uint64(n))
	}
}
