package asm

import "strings"

// The kinds of tokens.
const (
	name = iota + 1
	number
	distance
	sign
)

// beyond stands for all numbers that are too great for any field; a sixteenth of it is too great, too.
const beyond = 1 << 30

// token is one of a line. val is a number's or a distance's; blank: one stands ahead of it.
type token struct {
	kind  int
	text  string
	val   int64
	blank bool
}

// cut tells a line's tokens, up to a comment; false, if what stands somewhere begins none.
func cut(line string) (all []token, ok bool) {
	for {
		blanks := run(line, isBlank)
		line = line[blanks:]
		if line == "" || strings.HasPrefix(line, "//") {
			return all, true
		}
		t, size := ahead(line)
		if size == 0 {
			return nil, false
		}
		t.text, t.blank = line[:size], blanks > 0
		all, line = append(all, t), line[size:]
	}
}

// ahead tells the token that a text begins with, and how long it is; 0, if there is none.
func ahead(text string) (token, int) {
	switch {
	case strings.HasPrefix(text, "#-"):
		return amount(number, text, 2, -1)
	case strings.HasPrefix(text, "#"):
		return amount(number, text, 1, 1)
	case strings.HasPrefix(text, ".-"):
		return amount(distance, text, 2, -1)
	case strings.HasPrefix(text, ".+"):
		return amount(distance, text, 2, 1)
	case strings.ContainsRune(",[]:", rune(text[0])):
		return token{kind: sign}, 1
	case isLetter(rune(text[0])):
		return token{kind: name}, run(text, isOfName)
	}
	return token{}, 0
}

// amount tells a number or a distance, whose digits stand so many bytes behind its beginning.
func amount(kind int, text string, from int, factor int64) (token, int) {
	base := int64(10)
	if kind == number && strings.HasPrefix(text[from:], "0x") {
		base = 16
		from += 2
	}
	size := run(text[from:], func(r rune) bool { return digit(r) < base })
	if size == 0 {
		return token{}, 0
	}
	return token{kind: kind, val: factor * value(text[from:from+size], base)}, from + size
}

// value is that of digits, or beyond.
func value(digits string, base int64) int64 {
	n := int64(0)
	for _, r := range digits {
		n = min(n*base+digit(r), beyond)
	}
	return n
}

// run measures the runes of which each is as asked, up to the first that is not.
func run(text string, is func(r rune) bool) int {
	for at, r := range text {
		if !is(r) {
			return at
		}
	}
	return len(text)
}

func isBlank(r rune) bool { return r == ' ' || r == '\t' || r == '\r' }

func isLetter(r rune) bool { return 'a' <= r && r <= 'z' || 'A' <= r && r <= 'Z' || r == '_' }

func isOfName(r rune) bool { return isLetter(r) || digit(r) < 10 || r == '.' }

// digit is a rune's worth in base sixteen; 16, if it has none.
func digit(r rune) int64 {
	switch {
	case '0' <= r && r <= '9':
		return int64(r - '0')
	case 'a' <= r && r <= 'f':
		return int64(r-'a') + 10
	}
	return 16
}
