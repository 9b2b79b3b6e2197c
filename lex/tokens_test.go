package lex_test

import (
	"math"
	"strings"
	"testing"

	"sextant/api"
	"sextant/lex"
)

func TestP5_4Examples(t *testing.T) {
	taken(t, "let α1 = 0x1F;", 1, 15, word("let", 1, 1), name("α1", 1, 5), sign("=", 1, 8), number("0x1F", 31, 1, 10), sign(";", 1, 14))
	taken(t, "a<<=b // x\n", 2, 1, name("a", 1, 1), sign("<<", 1, 2), sign("=", 1, 4), name("b", 1, 5))
	taken(t, "", 1, 1)
	taken(t, "_", 1, 2, name("_", 1, 1))
	taken(t, "scx", 1, 4, name("scx", 1, 1))
	taken(t, "sc", 1, 3, word("sc", 1, 1))
	taken(t, "18446744073709551615", 1, 21, number("18446744073709551615", math.MaxUint64, 1, 1))
	taken(t, "007", 1, 4, number("007", 7, 1, 1))
	taken(t, "0x00000000000000000001", 1, 23, number("0x00000000000000000001", 1, 1, 1))
	if l, f := lex.Lex(nil); f != (api.Fault{}) || len(l) != 1 || l[0] != (lex.Token{Kind: lex.End, Line: 1, Col: 1}) {
		t.Errorf("P5.4: nil: %v, %v", l, f)
	}
}

func TestP5_4Kinds(t *testing.T) {
	if lex.Name != 1 || lex.Number != 2 || lex.Word != 3 || lex.Sign != 4 || lex.End != 5 {
		t.Errorf("chapter 5, the calls: %d %d %d %d %d", lex.Name, lex.Number, lex.Word, lex.Sign, lex.End)
	}
}

func TestP5_4TextsOfPieces(t *testing.T) {
	texts(func(text string) { hold(t, text) })
}

func TestP5_4EachWord(t *testing.T) {
	for _, w := range words {
		n := len(w)
		taken(t, w, 1, n+1, word(w, 1, 1))
		taken(t, "("+w+")", 1, n+3, sign("(", 1, 1), word(w, 1, 2), sign(")", 1, n+2))
		for _, c := range []string{"a", "Z", "_", "α", "ω", "0", "9", w} {
			long := len([]rune(w + c))
			taken(t, w+c, 1, long+1, name(w+c, 1, 1))
		}
		for _, c := range []string{"a", "Z", "_", "α", "ω"} {
			taken(t, c+w, 1, n+2, name(c+w, 1, 1))
		}
		up := strings.ToUpper(w)
		taken(t, up, 1, n+1, name(up, 1, 1))
		taken(t, up[:1]+w[1:], 1, n+1, name(up[:1]+w[1:], 1, 1))
	}
	taken(t, "acq rel", 1, 8, word("acq", 1, 1), word("rel", 1, 5))
	for _, s := range []string{"relacq", "acqre", "s", "c", "i", "whil", "shared_", "rmw", "for", "end", "fenc", "thread1"} {
		taken(t, s, 1, len(s)+1, name(s, 1, 1))
	}
}

// A name takes all letters and digits that follow: the second of each pair of runes goes on, or begins anew.
func TestP5_4NamesAreLongest(t *testing.T) {
	taken(t, "a0x1", 1, 5, name("a0x1", 1, 1))
	taken(t, "_9_", 1, 4, name("_9_", 1, 1))
	taken(t, "αβω09aZ", 1, 8, name("αβω09aZ", 1, 1))
	taken(t, "x+y", 1, 4, name("x", 1, 1), sign("+", 1, 2), name("y", 1, 3))
	taken(t, "x\ty", 1, 4, name("x", 1, 1), name("y", 1, 3))
	taken(t, "x//y", 1, 5, name("x", 1, 1))
}

func TestP5_4Numbers(t *testing.T) {
	for _, c := range []struct {
		text string
		val  uint64
	}{
		{"0", 0}, {"9", 9}, {"00", 0}, {"10", 10}, {"0123456789", 123456789}, {"18446744073709551614", math.MaxUint64 - 1},
		{"0x0", 0}, {"0X0", 0}, {"0x9", 9}, {"0xa", 10}, {"0xA", 10}, {"0xf", 15}, {"0XF", 15}, {"0X10", 16}, {"0xaAbBcC", 0xaabbcc}, {"0x0123456789abcdef", 0x0123456789abcdef}, {"0X0123456789ABCDEF", 0x0123456789abcdef},
		{"0xffffffffffffffff", math.MaxUint64}, {"0XFFFFFFFFFFFFFFFF", math.MaxUint64}, {"0x8000000000000000", 1 << 63}, {"0xe1", 0xe1}, {"0x0e", 14},
		{strings.Repeat("0", 5000) + "18446744073709551615", math.MaxUint64},
		{"0x" + strings.Repeat("0", 5000) + "FFFFFFFFFFFFFFFF", math.MaxUint64},
		{strings.Repeat("0", 5000), 0},
	} {
		taken(t, c.text, 1, len(c.text)+1, number(c.text, c.val, 1, 1))
		taken(t, c.text+"+a", 1, len(c.text)+3, number(c.text, c.val, 1, 1), sign("+", 1, len(c.text)+1), name("a", 1, len(c.text)+2))
	}
	taken(t, "1 2", 1, 4, number("1", 1, 1, 1), number("2", 2, 1, 3))
	taken(t, "-1", 1, 3, sign("-", 1, 1), number("1", 1, 1, 2))
	taken(t, "0//x", 1, 5, number("0", 0, 1, 1))
	taken(t, "0\nx1", 2, 3, number("0", 0, 1, 1), name("x1", 2, 1))
}

func TestP5_4EachSign(t *testing.T) {
	for _, s := range signs {
		taken(t, s, 1, len(s)+1, sign(s, 1, 1))
		taken(t, "a"+s+"7", 1, len(s)+3, name("a", 1, 1), sign(s, 1, 2), number("7", 7, 1, len(s)+2))
	}
	// two and three beside one another: the longest is cut off first, also where the end cuts one short
	for _, a := range signs {
		for _, b := range signs {
			hold(t, a+b)
			hold(t, a+" "+b)
			for _, c := range signs {
				hold(t, a+b+c)
			}
		}
	}
	taken(t, "<<<", 1, 4, sign("<<", 1, 1), sign("<", 1, 3))
	taken(t, "<<=", 1, 4, sign("<<", 1, 1), sign("=", 1, 3))
	taken(t, "<=<", 1, 4, sign("<=", 1, 1), sign("<", 1, 3))
	taken(t, ">>>=", 1, 5, sign(">>", 1, 1), sign(">=", 1, 3))
	taken(t, "===", 1, 4, sign("==", 1, 1), sign("=", 1, 3))
	taken(t, "=!=!", 1, 5, sign("=", 1, 1), sign("!=", 1, 2), sign("!", 1, 4))
	taken(t, "=<=>", 1, 5, sign("=", 1, 1), sign("<=", 1, 2), sign(">", 1, 4))
	taken(t, "&&||", 1, 5, sign("&", 1, 1), sign("&", 1, 2), sign("|", 1, 3), sign("|", 1, 4))
	taken(t, "!~-", 1, 4, sign("!", 1, 1), sign("~", 1, 2), sign("-", 1, 3))
	taken(t, "< <", 1, 4, sign("<", 1, 1), sign("<", 1, 3))
	taken(t, "=\n=", 2, 2, sign("=", 1, 1), sign("=", 2, 1))
}

// Of every rune there is: alone, behind a letter, behind a digit, and in a remark.
func TestP5_4EveryRune(t *testing.T) {
	for r := range rune(0x110000) {
		if 0xd800 <= r && r <= 0xdfff {
			continue
		}
		s := string(r)
		if l, f := lex.Lex([]byte(s)); f == (api.Fault{}) != begins(r) || f == (api.Fault{}) && len(l) > 2 {
			t.Fatalf("P5.2, P5.4: U+%04X alone: %v, %v", r, l, f)
		}
		l, f := lex.Lex([]byte("//" + s))
		if f != (api.Fault{}) || len(l) != 1 || r != 10 && l[0].Col != 4 {
			t.Fatalf("P5.3: U+%04X in a remark: %v, %v", r, l, f)
		}
		if r < 0x3000 || r > 0x10f000 || 0xff00 <= r && r < 0x10100 {
			hold(t, s)
			hold(t, "a"+s)
			hold(t, "7"+s)
			hold(t, "0xf"+s)
			hold(t, "0x"+s)
			hold(t, "//"+s+"\na")
		}
	}
}

// begins tells whether a rune begins a token or is a blank.
func begins(r rune) bool {
	return r < 0x80 && strings.ContainsRune("\t\n\r +-*&^|~!<>=()[]{},;_0123456789abcdefghijklmnopqrstuvwxyzABCDEFGHIJKLMNOPQRSTUVWXYZ", r) || 0x3b1 <= r && r <= 0x3c9
}

func TestP5_3Between(t *testing.T) {
	taken(t, " \t\r\n", 2, 1)
	taken(t, "a b\tc\rd\ne", 2, 2, name("a", 1, 1), name("b", 1, 3), name("c", 1, 5), name("d", 1, 7), name("e", 2, 1))
	taken(t, "//", 1, 3)
	taken(t, "///", 1, 4)
	taken(t, "////\n//", 2, 3)
	taken(t, "//\n", 2, 1)
	taken(t, "// sc $ \" é 12a 0x / \U0010FFFF \uFFFD\x00", 1, 26)
	taken(t, "a// b\nc", 2, 2, name("a", 1, 1), name("c", 2, 1))
	taken(t, "a// b\rc\n", 2, 1, name("a", 1, 1))
	taken(t, "// a\u2028b\u0085c\vd\fe", 1, 13)
	taken(t, "1//\n//x\n2", 3, 2, number("1", 1, 1, 1), number("2", 2, 3, 1))
	taken(t, "<//<\n<", 2, 2, sign("<", 1, 1), sign("<", 2, 1))
	for _, s := range []string{"\v", "\f", "\x00", "\x1f", "\x7f", "\u0085", "\u00a0", "\u2003", "\u2028", "\ufeff", "#", "/**/"} {
		refused(t, "a "+s, 1, 3)
	}
}
