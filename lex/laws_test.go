package lex_test

import (
	"slices"
	"strings"
	"testing"

	"sextant/api"
	"sextant/lex"
)

// offset is where in a text a place is.
func offset(text string, line, col int) int {
	at := 0
	for range line - 1 {
		at += strings.IndexByte(text[at:], '\n') + 1
	}
	n := 0
	for i := range text[at:] {
		if n == col-1 {
			return at + i
		}
		n++
	}
	return len(text)
}

func TestP5_6TokensAreTheText(t *testing.T) {
	whole := 0
	texts(func(text string) {
		l, f := lex.Lex([]byte(text))
		if f != (api.Fault{}) {
			return
		}
		whole++
		at := 0
		for i, x := range l {
			o := offset(text, x.Line, x.Col)
			gap := betweenAll
			if x.Kind == lex.End {
				gap = behindAll
			}
			if o < at || !gap.MatchString(text[at:o]) || !strings.HasPrefix(text[o:], x.Text) {
				t.Fatalf("P5.6: %q: token %d is %v, behind %d bytes", text, i, x, at)
			}
			if (x.Kind == lex.End) != (i == len(l)-1) || (x.Text == "") != (x.Kind == lex.End) {
				t.Fatalf("P5.4: %q: token %d of %d is %v", text, i, len(l), x)
			}
			at = o + len(x.Text)
		}
		if at != len(text) {
			t.Fatalf("P5.6: %q: %d of %d bytes", text, at, len(text))
		}
	})
	if whole < 5000 {
		t.Errorf("only %d texts are whole", whole)
	}
}

// bare are tokens without their places.
func bare(l []lex.Token) []lex.Token {
	out := slices.Clone(l)
	for i := range out {
		out[i].Line, out[i].Col = 0, 0
	}
	return out
}

func TestP5_6TextsPutTogetherAgain(t *testing.T) {
	texts(func(text string) {
		l, f := lex.Lex([]byte(text))
		if f != (api.Fault{}) {
			return
		}
		var parts []string
		for _, x := range l {
			parts = append(parts, x.Text)
		}
		for _, blank := range []string{" ", "\t", "\n", "\r"} {
			again := strings.Join(parts, blank)
			m, g := lex.Lex([]byte(again))
			if g != (api.Fault{}) || !slices.Equal(bare(l), bare(m)) {
				t.Fatalf("P5.6: %q: %v; %q: %v, %v", text, l, again, m, g)
			}
		}
	})
}

func TestP5_6FaultsHangOnNothingBehind(t *testing.T) {
	tails := []string{"", "a", "$", "\xff", "\xb1", "//", "0", "x\n\n0x", "\n", "=", "18446744073709551616"}
	faults := 0
	texts(func(text string) {
		_, f := lex.Lex([]byte(text))
		if f == (api.Fault{}) {
			return
		}
		faults++
		at := offset(text, f.Line, f.Col)
		if k := strings.IndexByte(text[at:], '\n'); k >= 0 {
			text = text[:at+k]
		}
		for _, s := range tails {
			if l, g := lex.Lex([]byte(text + "\n" + s)); g != f || len(l) != 0 {
				t.Fatalf("P5.6: %q is refused at %v; with %q behind: %v, %v", text, f, s, l, g)
			}
		}
	})
	if faults < 5000 {
		t.Errorf("only %d texts have a fault", faults)
	}
}

func TestR4TheTextIsNotChangedAndNotKept(t *testing.T) {
	for _, text := range []string{"let α1 = 0x1F; // x\n<<", "a $", "12a", "//\xff", ""} {
		room := []byte(text + "spare room")
		b := room[:len(text)]
		l, f := lex.Lex(b)
		if string(room) != text+"spare room" {
			t.Errorf("R4: %q is changed: %q", text, room)
		}
		before := slices.Clone(l)
		for i := range before {
			before[i].Text = strings.Clone(before[i].Text)
		}
		for i := range room {
			room[i] = 'z'
		}
		if !slices.Equal(l, before) {
			t.Errorf("R4: %q is kept: %v; %v", text, l, before)
		}
		again, g := lex.Lex([]byte(text))
		if !slices.Equal(again, before) || g != f {
			t.Errorf("R5: %q: %v, %v; again %v, %v", text, before, f, again, g)
		}
		for i := range l[:cap(l)] {
			l[:cap(l)][i] = lex.Token{}
		}
		if !slices.Equal(again, before) {
			t.Errorf("R4: %q: two answers share memory", text)
		}
	}
}
