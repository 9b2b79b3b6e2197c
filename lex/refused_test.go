package lex_test

import (
	"strings"
	"testing"

	"sextant/api"
	"sextant/lex"
)

func TestP5_2Examples(t *testing.T) {
	refused(t, "12a", 1, 3)
	refused(t, "0x", 1, 3)
	refused(t, "0xg", 1, 3)
	refused(t, "18446744073709551616", 1, 1)
	refused(t, "a $", 1, 3)
	refused(t, "\xff", 1, 1)
	refused(t, "é", 1, 1)
	refused(t, "α\xce", 1, 2)
}

// tooBig holds a text against EBIG.
func tooBig(t *testing.T, text string) {
	t.Helper()
	if l, f := lex.Lex([]byte(text)); len(l) != 0 || f != (api.Fault{Code: api.EBIG, Line: 1, Col: 1}) {
		t.Errorf("P5.2: %d bytes, that begin with %q: %d tokens, %v; want EBIG 1 1 alone", len(text), text[:4], len(l), f)
	}
}

func TestP5_2Big(t *testing.T) {
	n := api.MaxText
	for _, s := range []string{" ", "\n", "a", "1", ";", "/", "$", "\xff", "\x00", "a ", "<", "0x", "\n$", "α", "\xce"} {
		text := strings.Repeat(s, n)[:n]
		hold(t, text)
		tooBig(t, text+" ")
		tooBig(t, text+"$")
		tooBig(t, text+text)
	}
	taken(t, strings.Repeat("0", n-1)+"7", 1, n+1, number(strings.Repeat("0", n-1)+"7", 7, 1, 1))
	taken(t, strings.Repeat("a", n), 1, n+1, name(strings.Repeat("a", n), 1, 1))
	// the bytes count, not the runes
	taken(t, strings.Repeat("α", n/2), 1, n/2+1, name(strings.Repeat("α", n/2), 1, 1))
	tooBig(t, strings.Repeat("α", n/2)+"a")
	tooBig(t, "//"+strings.Repeat("\U0001F600", n/4))
}

func TestP5_2TooGreat(t *testing.T) {
	for _, s := range []string{
		"18446744073709551616", "18446744073709551617", "18446744073709551620", "18446744073709551700", "20000000000000000000", "99999999999999999999",
		"184467440737095516150", "184467440737095516160", "100000000000000000000", "36893488147419103232", "340282366920938463463374607431768211456",
		"0x10000000000000000", "0X10000000000000000", "0x10000000000000001", "0xFFFFFFFFFFFFFFFF0", "0xfffffffffffffffff", "0x80000000000000000", "0x100000000000000000000000000000000",
	} {
		refused(t, s, 1, 1)
		refused(t, "x = "+s+";", 1, 5)
		refused(t, s+"a", 1, 1)
		refused(t, s+"$", 1, 1)
		refused(t, s+"\xff", 1, 1)
		refused(t, "\n\n"+s, 3, 1)
		sixteens := len(s) > 1 && (s[1] == 'x' || s[1] == 'X')
		if long := strings.Repeat("0", 3000); sixteens {
			refused(t, s[:2]+long+s[2:], 1, 1)
		} else {
			refused(t, long+s, 1, 1)
		}
	}
	refused(t, strings.Repeat("9", api.MaxText), 1, 1)
	refused(t, "0x"+strings.Repeat("f", api.MaxText-2), 1, 1)
	refused(t, "1 18446744073709551616 2 18446744073709551616", 1, 3)
}

// A letter stands right behind a number's last digit.
func TestP5_2LetterBehindANumber(t *testing.T) {
	for _, c := range []string{"a", "g", "x", "z", "A", "G", "X", "Z", "_", "α", "ω", "ς"} {
		refused(t, "7"+c, 1, 2)
		refused(t, "12"+c+"3", 1, 3)
		refused(t, "a 007"+c, 1, 6)
		refused(t, "18446744073709551615"+c, 1, 21)
		refused(t, "9\n3"+c+" $", 2, 2)
	}
	for _, c := range []string{"g", "x", "z", "G", "X", "Z", "_", "α", "ω"} {
		refused(t, "0x7"+c, 1, 4)
		refused(t, "0XfF"+c+"a", 1, 5)
		refused(t, "0xffffffffffffffff"+c, 1, 19)
	}
	refused(t, "00x1", 1, 3)
	refused(t, "10x1", 1, 3)
	refused(t, "0b1", 1, 2)
	refused(t, "0o7", 1, 2)
	refused(t, "1e5", 1, 2)
	refused(t, "1_000", 1, 2)
	refused(t, "1sc", 1, 2)
	// digits are a number's own, however many: none stands behind its last one
	taken(t, "0x0123456789", 1, 13, number("0x0123456789", 0x0123456789, 1, 1))
	taken(t, "00123", 1, 6, number("00123", 123, 1, 1))
}

func TestP5_2NoDigitOfSixteen(t *testing.T) {
	for _, x := range []string{"0x", "0X"} {
		for _, s := range []string{"", " ", "\n", "\t", "\r", "g", "x1", "G", "_", "α", "é", "\xff", "\xce", "+", ";", "//", " 1", "$"} {
			refused(t, x+s, 1, 3)
			refused(t, "\n "+x+s, 2, 4)
			refused(t, "a+"+x+s, 1, 5)
		}
	}
	refused(t, "00x", 1, 3)
	refused(t, "0x0x", 1, 4)
}

func TestP5_2NoTokenBegins(t *testing.T) {
	for _, c := range []string{"$", "@", "#", "%", "\"", "'", "`", "\\", ".", ":", "?", "/", "\x00", "\x01", "\x1b", "\x7f", "é", "ΰ", "ϊ", "Α", "Ω", "٣", "\u0660", "ａ", "０", "\uFFFD", "\ufeff", "\U0001F600", "\U0010FFFF"} {
		refused(t, c, 1, 1)
		refused(t, "a"+c, 1, 2)
		refused(t, "7"+c, 1, 2)
		refused(t, "<"+c, 1, 2)
		refused(t, "sc "+c+" $", 1, 4)
		refused(t, "//\n\n "+c, 3, 2)
	}
}

func TestP5_2LoneSlash(t *testing.T) {
	for _, s := range []string{"/", "/ /", "/\n/", "/a", "/*x*/", "/\xff", "/=", "/7"} {
		refused(t, s, 1, 1)
		refused(t, "a "+s, 1, 3)
		refused(t, "// x\n"+s, 2, 1)
	}
}

// broken are bytes of which the first is part of no rune.
var broken = []string{
	"\x80", "\xbf", "\xc0", "\xc1", "\xf5", "\xf8", "\xfc", "\xfe", "\xff", // begin none
	"\xc2", "\xce", "\xdf", "\xe2\x82", "\xe2", "\xf0\x9f\x98", "\xf0\x9f", "\xf0", "\xce\xce", "\xce ", "\xcea", "\xe2\x82x", "\xf0\x9f\x98\n", // are cut short
	"\xc0\x80", "\xc0\xaf", "\xc1\xbf", "\xe0\x80\x80", "\xe0\x9f\xbf", "\xf0\x80\x80\x80", "\xf0\x8f\xbf\xbf", "\xc1\xa1", "\xe0\x8e\xb1", // are longer than need be
	"\xed\xa0\x80", "\xed\xad\xbf", "\xed\xae\x80", "\xed\xbf\xbf", // surrogates
	"\xf4\x90\x80\x80", "\xf5\x80\x80\x80", "\xf7\xbf\xbf\xbf", "\xf8\x88\x80\x80\x80", "\xfc\x84\x80\x80\x80\x80", // above U+10FFFF
}

func TestP5_2BytesThatAreNoRunes(t *testing.T) {
	for _, s := range broken {
		refused(t, s, 1, 1)
		refused(t, "a"+s, 1, 2)
		refused(t, "α"+s, 1, 2)
		refused(t, "7"+s, 1, 2)
		refused(t, "0xf"+s, 1, 4)
		refused(t, "< "+s, 1, 3)
		refused(t, "//"+s, 1, 3)
		refused(t, "// é"+s+"\na", 1, 5)
		refused(t, "//\uFFFD"+s, 1, 4)
		refused(t, "x\n//\n///"+s, 3, 4)
		refused(t, "$"+s, 1, 1)
		refused(t, "//"+s+"\n$", 1, 3)
	}
	// those beside them are runes
	for _, s := range []string{"\u0080", "\u07ff", "\u0800", "\ud7ff", "\ue000", "\uffff", "\U00010000", "\U0010ffff", "\uFFFD", "\x00", "\x7f"} {
		taken(t, "//"+s, 1, 4)
		refused(t, s, 1, 1)
	}
}

// All of two bytes, and many of three and of four, held against the table of well-formed ones.
func TestP5_2AllShapesOfRunes(t *testing.T) {
	look := func(bytes ...byte) {
		s := string(bytes)
		hold(t, s)
		hold(t, "//"+s)
	}
	edges := []byte{0, '\n', '/', 'a', 0x7f, 0x80, 0x81, 0x8f, 0x90, 0x9f, 0xa0, 0xbf, 0xc0, 0xff}
	for a := range 256 {
		look(byte(a))
		for b := range 256 {
			look(byte(a), byte(b))
			if a >= 0xe0 {
				for _, c := range edges {
					look(byte(a), byte(b), c)
				}
			}
		}
	}
	for a := 0xf0; a < 0x100; a++ {
		for _, b := range edges {
			for _, c := range edges {
				for _, d := range edges {
					look(byte(a), b, c, d)
				}
			}
		}
	}
}

// Of several faults that is told which stands first.
func TestP5_2FirstPlaceFirst(t *testing.T) {
	faults := []string{"$", "0x", "7a", "18446744073709551616", "\xff", "//\xff", "é", "/", "0xfffffffffffffffff"}
	for _, a := range faults {
		_, f := model(a)
		for _, b := range faults {
			refused(t, a+" "+b, f.Line, f.Col)
			refused(t, a+"\n"+b, f.Line, f.Col)
			hold(t, a+b)
		}
	}
}
