package lex_test

import (
	"strings"
	"testing"

	"sextant/api"
	"sextant/lex"
)

func TestP5_5IsName(t *testing.T) {
	for _, s := range []string{"x", "_", "__", "a9", "_9", "ω9", "α", "ω", "ς", "αβγ", "aZ", "scx", "xsc", "sc_", "SC", "Let", "x0x", "shared1", "acqrelα", "αsc"} {
		if !lex.IsName(s) {
			t.Errorf("P5.5: %q is a name", s)
		}
	}
	for _, s := range []string{"", "9", "9x", "0x1", " ", "x ", " x", "x y", "x\n", "\nx", "x\x00", "+", "x+", "x;", "//", "x//", "é", "xé", "éx", "ΰ", "ϊ", "xϊ", "Α", "\xce", "x\xce", "x\xff", "\xffx", "\uFFFD", "x\uFFFD", "x-y", "x.y", "x\r", "\tx"} {
		if lex.IsName(s) {
			t.Errorf("P5.5: %q is no name", s)
		}
	}
	for _, w := range words {
		if lex.IsName(w) || !lex.IsName(w+"1") || !lex.IsName("_"+w) || lex.IsName(w+" ") {
			t.Errorf("P5.5: %q, and names that begin with it or end in it", w)
		}
	}
}

// Of every text IsName holds just if Lex cuts one Name off it, that is all of it.
func TestP5_5IsWhatLexCuts(t *testing.T) {
	texts(func(text string) {
		l, _ := lex.Lex([]byte(text))
		want := len(l) == 2 && l[0].Kind == lex.Name && l[0].Text == text
		if lex.IsName(text) != want {
			t.Fatalf("P5.5: IsName(%q) is %v; Lex: %v", text, !want, l)
		}
	})
	for r := range rune(0x110000) {
		s := string(r)
		letter := begins(r) && (r == '_' || 'a' <= r|0x20 && r|0x20 <= 'z' || r > 0x80)
		digit := '0' <= r && r <= '9'
		if lex.IsName(s) != letter || lex.IsName("q"+s) != (letter || digit) {
			t.Fatalf("P5.5: U+%04X", r)
		}
	}
}

// Nothing bounds a name but the text that it stands in.
func TestP5_5LongNames(t *testing.T) {
	for _, n := range []int{1000, api.MaxText, 2 * api.MaxText} {
		s := strings.Repeat("x", n)
		if !lex.IsName(s) || lex.IsName(s+" ") {
			t.Errorf("P5.5: a name of %d letters", n)
		}
	}
}
