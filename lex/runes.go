package lex

import (
	"math"
	"strings"
	"unicode/utf8"
)

// signs are all of them, the longer ones first, so that the first that stands ahead is the longest.
var signs = [...]string{
	"<<", ">>", "==", "!=", "<=", ">=",
	"+", "-", "*", "&", "^", "|", "~", "!", "<", ">", "=",
	"(", ")", "[", "]", "{", "}", ",", ";",
}

// isWord tells whether a name has a meaning of its own.
func isWord(name string) bool {
	switch name {
	case "shared", "thread", "let", "load", "store", "xchg", "fadd", "cas", "fence", "print",
		"if", "else", "while", "rlx", "acq", "rel", "acqrel", "sc":
		return true
	}
	return false
}

func isLetter(r rune) bool {
	return 'a' <= r && r <= 'z' || 'A' <= r && r <= 'Z' || r == '_' || 'α' <= r && r <= 'ω'
}

func isDigit(r rune) bool { return '0' <= r && r <= '9' }

// digit is a rune's worth in base sixteen; 16, if it has none.
func digit(r rune) uint64 {
	switch {
	case isDigit(r):
		return uint64(r - '0')
	case 'a' <= r && r <= 'f':
		return uint64(r-'a') + 10
	case 'A' <= r && r <= 'F':
		return uint64(r-'A') + 10
	}
	return 16
}

// nameAhead measures the name that a text begins with, in bytes and in runes.
func nameAhead(text string) (size, runes int) {
	for i, r := range text {
		if !isLetter(r) && (i == 0 || !isDigit(r)) {
			return i, runes
		}
		runes++
	}
	return len(text), runes
}

// digitsAhead measures the digits of a base that a text begins with, and tells their value, and whether that has 64 bits at most.
func digitsAhead(text string, base uint64) (size int, val uint64, fits bool) {
	fits = true
	for i, r := range text {
		d := digit(r)
		if d >= base {
			return i, val, fits
		}
		fits = fits && val <= (math.MaxUint64-d)/base
		val = val*base + d
	}
	return len(text), val, fits
}

// remarkAhead measures a remark that a text begins with, in bytes and in runes, up to the end of its line or to a byte that is part of no rune.
func remarkAhead(text string) (size, runes int) {
	for i, r := range text {
		if r == '\n' || r == utf8.RuneError && !strings.HasPrefix(text[i:], "\uFFFD") {
			return i, runes
		}
		runes++
	}
	return len(text), runes
}

// signAhead is the length of the sign that a text begins with; 0, if there is none.
func signAhead(text string) int {
	for _, s := range signs {
		if strings.HasPrefix(text, s) {
			return len(s)
		}
	}
	return 0
}

func letterAhead(text string) bool {
	r, _ := utf8.DecodeRuneInString(text)
	return isLetter(r)
}
