package lex

import (
	"strings"

	"sextant/api"
)

// cutter is what is left of a text, and the place where that begins.
type cutter struct {
	rest      string
	line, col int
}

// pass leaves bytes of one line behind, that are so many runes.
func (c *cutter) pass(size, runes int) {
	c.rest = c.rest[size:]
	c.col += runes
}

// passBetween leaves blanks and remarks behind. It may stop within a remark, at a byte that is part of no rune: no token begins there, so that it is refused where it stands.
func (c *cutter) passBetween() {
	for c.rest != "" {
		switch {
		case c.rest[0] == '\n':
			c.rest = c.rest[1:]
			c.line++
			c.col = 1
		case c.rest[0] == ' ' || c.rest[0] == '\t' || c.rest[0] == '\r':
			c.pass(1, 1)
		case strings.HasPrefix(c.rest, "//"):
			c.pass(remarkAhead(c.rest))
		default:
			return
		}
	}
}

// token cuts the one that stands ahead.
func (c *cutter) token() (Token, api.Fault) {
	if c.rest == "" {
		return c.cut(End, 0, 0), api.Fault{}
	}
	if size, runes := nameAhead(c.rest); size > 0 {
		kind := Name
		if isWord(c.rest[:size]) {
			kind = Word
		}
		return c.cut(kind, size, runes), api.Fault{}
	}
	if size := signAhead(c.rest); size > 0 {
		return c.cut(Sign, size, size), api.Fault{}
	}
	if isDigit(rune(c.rest[0])) {
		return c.number()
	}
	return Token{}, c.refuse(0)
}

// number cuts a number. Of what is wrong with it that which stands first is told: its value is refused at its first digit, ahead of a letter behind it.
func (c *cutter) number() (Token, api.Fault) {
	ahead, base := 0, uint64(10)
	if strings.HasPrefix(c.rest, "0x") || strings.HasPrefix(c.rest, "0X") {
		ahead, base = 2, 16
	}
	size, val, fits := digitsAhead(c.rest[ahead:], base)
	end := ahead + size
	switch {
	case size == 0:
		return Token{}, c.refuse(ahead)
	case !fits:
		return Token{}, c.refuse(0)
	case letterAhead(c.rest[end:]):
		return Token{}, c.refuse(end)
	}
	t := c.cut(Number, end, end)
	t.Val = val
	return t, api.Fault{}
}

// cut takes a token off what is left.
func (c *cutter) cut(kind, size, runes int) Token {
	t := Token{Kind: kind, Text: c.rest[:size], Line: c.line, Col: c.col}
	c.pass(size, runes)
	return t
}

// refuse is the fault at the place so many runes ahead, in the same line.
func (c *cutter) refuse(runes int) api.Fault {
	return api.Fault{Code: api.ELEX, Line: c.line, Col: c.col + runes}
}
