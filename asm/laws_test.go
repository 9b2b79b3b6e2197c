package asm_test

import (
	"fmt"
	"slices"
	"strings"
	"testing"

	"sextant/api"
	"sextant/asm"
	"sextant/code"
)

// against holds what Parse tells of a text against the model, and tells it.
func against(t *testing.T, text string) ([]uint32, api.Errno) {
	t.Helper()
	want, wantLine, wantE := modelParse(text)
	words, line, e := asm.Parse(text)
	if !slices.Equal(words, want) || line != wantLine || e != wantE {
		t.Fatalf("P15.2: Parse(%q) = %08x, %d, %v; want %08x, %d, %v", text, words, line, e, want, wantLine, wantE)
	}
	return words, e
}

// Any lines, of good ones and of spoilt ones.
func TestP15_2Model(t *testing.T) {
	d := dice(2)
	told := map[api.Errno]int{}
	for range 6000 {
		text := d.text(d.roll(7))
		_, e := against(t, text)
		told[e]++
	}
	for _, e := range []api.Errno{api.OK, api.ETEXT, api.ETWICE, api.ENAME} {
		if told[e] < 200 {
			t.Errorf("not all is tried: %v is told %d times", e, told[e])
		}
	}
}

// text has so many lines, loosely written, of which some may be spoilt.
func (d *dice) text(size int) string {
	var out strings.Builder
	labels := []string{"a", "a1", "x1", "L0", "_", "ld", "z.z", "c", "d", "e", "f", "g"}
	for n := range size {
		var tokens []string
		for d.roll(3) == 0 {
			tokens = append(tokens, pick(d, labels), ":")
		}
		if d.roll(5) > 0 {
			i := d.any(1+d.roll(code.Ldaddal), 9)
			if d.roll(2) == 0 {
				i = d.any(code.B+d.roll(4), 9)
			}
			target := pick(d, labels)
			if d.roll(3) == 0 {
				target = fmt.Sprintf(".%+d", i.Imm)
			}
			tokens = append(tokens, tokensOf(told(i, target))...)
		}
		if len(tokens) > 0 && d.roll(15) == 0 {
			tokens[d.roll(len(tokens))] = pick(d, spareTokens)
		}
		out.WriteString(d.loose(tokens))
		if n < size-1 || d.roll(2) == 0 {
			out.WriteString("\n")
		}
	}
	return out.String()
}

// loose writes tokens with blanks, at times with none between.
func (d *dice) loose(tokens []string) string {
	out := ""
	for n, x := range tokens {
		out += pick(d, []string{"", " ", "\t", " \r"})
		if n > 0 && (d.roll(60) > 0 && isNamed(tokens[n-1]) && (isNamed(x) || x[0] == '.')) {
			out += pick(d, []string{" ", "  ", "\t"})
		}
		out += x
	}
	return out + pick(d, []string{"", "", " ", "\r", "//", " // a: é\xff", "//nop"})
}

func isNamed(token string) bool {
	return token[0] >= 'a' && token[0] <= 'z' || token[0] >= 'A' && token[0] <= 'Z' || token[0] == '_'
}

// Each byte of each row changed to another one, taken out, and put in.
func TestP15_2EachByte(t *testing.T) {
	bytes := "x0w._:,[]#-+ \tfA/\n\x00é"
	taken, refused := 0, 0
	try := func(text string) {
		if _, e := against(t, text); e == api.OK {
			taken++
		} else {
			refused++
		}
	}
	for _, r := range table {
		line := strings.NewReplacer("?", "lt", "X", "x3", "W", "w11", "#", "#8", "P", "#32", "C", "hi", "T", "c").Replace(r.text) + "\nc: d:"
		if r.op == code.Hlt {
			line = "hlt #0"
		}
		for n := range line {
			try(line[:n] + line[n+1:])
			for k := range len(bytes) {
				try(line[:n] + bytes[k:k+1] + line[n+1:])
				try(line[:n] + bytes[k:k+1] + line[n:])
			}
		}
	}
	if taken < 2000 || refused < 10000 {
		t.Errorf("not all is tried: %d are taken, %d refused", taken, refused)
	}
}

// Parse of what Print tells answers the words.
func TestP15_3ThereAndBack(t *testing.T) {
	d := dice(3)
	for size := range 500 {
		w := words(t, d.some(size%90)...)
		text, at, e := asm.Print(w)
		if at != 0 || e != api.OK {
			t.Fatalf("P15.1: %08x: %d, %v", w, at, e)
		}
		reads(t, text, w...)
		reads(t, strings.TrimSuffix(text, "\n"), w...)
		prints(t, text, w...)
	}
	for op := code.Movz; op <= code.Ldaddal; op++ {
		for range 100 {
			w := word(t, d.any(op, 1<<18))
			text, _, _ := asm.Print([]uint32{w})
			reads(t, text, w)
		}
	}
	long := words(t, d.some(2000)...)
	text, _, e := asm.Print(long)
	if e != api.OK {
		t.Fatal(len(text), e)
	}
	reads(t, text, long...)
}

// Blanks, comments, labels' names and digits make no difference: Print tells one text of all listings of the same words.
func TestP15_3OtherListings(t *testing.T) {
	d := dice(4)
	for size := range 300 {
		w := words(t, d.some(size%50)...)
		text, _, _ := asm.Print(w)
		for range 4 {
			other := d.rewritten(text)
			got, line, e := asm.Parse(other)
			if !slices.Equal(got, w) || line != 0 || e != api.OK {
				t.Fatalf("P15.3: Parse(%q) = %08x, %d, %v; want %08x, as of %q", other, got, line, e, w, text)
			}
			prints(t, text, got...)
		}
	}
}

// rewritten is a listing in other words: other names, some of them on the line of what they stand ahead of, other digits, blanks, and comments.
func (d *dice) rewritten(text string) string {
	var out strings.Builder
	spare := 0
	for _, line := range strings.Split(strings.TrimSuffix(text, "\n"), "\n") {
		tokens := tokensOf(strings.ReplaceAll(line, ":", " : "))
		for n, x := range tokens {
			tokens[n] = d.otherToken(x)
		}
		if d.roll(9) == 0 { // a label that nothing branches to
			spare++
			tokens = append([]string{fmt.Sprintf("spare%d", spare), ":"}, tokens...)
		}
		if d.roll(9) == 0 {
			out.WriteString(d.loose(nil) + "\n")
		}
		written := d.tidy(tokens)
		out.WriteString(written)
		if strings.HasSuffix(written, ":") && d.roll(2) == 0 {
			continue // the label stands on the line behind it
		}
		out.WriteString(pick(d, []string{"", " ", "//", " // b L0", "\r"}) + "\n")
	}
	return out.String()
}

// otherToken has the same meaning.
func (d *dice) otherToken(x string) string {
	switch {
	case x[0] == 'L':
		return "x" + x[1:] + "_.b" // all targets alike
	case x[0] == '#':
		var n int64
		fmt.Sscanf(x, "#%d", &n)
		return fmt.Sprintf(pick(d, []string{"#%d", "#0%d", "#000000000000000000000000%d", "#0x%x", "#0x0000%x"}), n)
	case x[0] == '.':
		return x[:2] + strings.Repeat("0", d.roll(30)) + x[2:]
	}
	return x
}

// tidy writes tokens with blanks where they must be, and at times elsewhere.
func (d *dice) tidy(tokens []string) string {
	out := ""
	for n, x := range tokens {
		out += pick(d, []string{"", "", " ", "\t", " \r"})
		if n > 0 && isNamed(tokens[n-1]) && (isNamed(x) || x[0] == '.') {
			out += pick(d, []string{" ", "\t\t"})
		}
		out += x
	}
	return out
}

// R1: whatever bytes, no call panics, and an error comes with nothing else.
func TestR1Anything(t *testing.T) {
	d := dice(5)
	pieces := strings.Fields("movz x1 , #5 lsl #16 b a : a: .+1 . # #- #0x ldr [ ] x2 nop w3 stxr cbz cset eq dmb ld // / é \xff 18446744073709551616 L0: \x00")
	for range 12000 {
		var text strings.Builder
		for range d.roll(12) {
			if d.roll(6) == 0 {
				text.WriteByte(byte(d.next()))
			} else {
				text.WriteString(pick(&d, pieces))
			}
			text.WriteString(pick(&d, []string{"", " ", "\n", " "}))
		}
		words, line, e := asm.Parse(text.String())
		if e != api.OK && len(words) != 0 || (e == api.OK) != (line == 0) {
			t.Fatalf("R2: %q: %08x, %d, %v", text.String(), words, line, e)
		}
		against(t, text.String())
	}
	for range 8000 {
		words := make([]uint32, d.roll(4))
		for n := range words {
			words[n] = uint32(d.next())
			if d.roll(2) == 0 {
				words[n] = word(t, d.any(1+d.roll(code.Ldaddal), 9))
			}
		}
		text, at, e := asm.Print(words)
		_, wantAt, wantE := code.List(words)
		if at != wantAt || e != wantE || e != api.OK && text != "" {
			t.Fatalf("P15.1: %08x: %q, %d, %v; want %d, %v", words, text, at, e, wantAt, wantE)
		}
	}
}

// R4: what is handed in is not changed, its spare room too, and what is answered is memory of its own, to the end of its room.
func TestR4Memory(t *testing.T) {
	d := dice(6)
	for size := range 120 {
		w := words(t, d.some(size+20)...)
		if size%4 == 3 {
			w[size/2] = 0
		}
		kept := slices.Clone(w)
		text, _, _ := asm.Print(w[:size])
		if !slices.Equal(w, kept) {
			t.Fatalf("R4: Print of %d words changes them", size)
		}
		first, _, _ := asm.Parse(text)
		again, _, _ := asm.Parse(text)
		want := slices.Clone(again)
		first = first[:cap(first)]
		for n := range first {
			first[n] = 0xdeadbeef
		}
		clear(w)
		if !slices.Equal(again, want) {
			t.Fatalf("R4: two answers of %d words share memory", size)
		}
		if third, _, _ := asm.Parse(text); !slices.Equal(third, want) {
			t.Fatalf("R4: an answer of %d words is kept", size)
		}
	}
}

// R5: the same is told each time, and by many at the same time: no order of a map is seen.
func TestR5EachTime(t *testing.T) {
	d := dice(7)
	l := d.some(60)
	for n := range 40 {
		l = append(l, api.Ins{Op: code.Bcond, Cond: n % 14, Imm: int64(d.roll(90) - 50 - n)})
	}
	w := words(t, l...)
	text := listing(l)
	faults := "c: b q\nb r\nb.eq s\ncbz x1, t\nd: nop\nc: d: nop"
	said := make(chan string)
	for range 8 {
		go func() {
			for range 60 {
				got, _, e := asm.Print(w)
				back, _, f := asm.Parse(text)
				_, line, g := asm.Parse(faults)
				_, first, h := asm.Parse(faults[:strings.LastIndex(faults, "\n")])
				if got != text || e != api.OK || !slices.Equal(back, w) || f != api.OK || line != 6 || g != api.ETWICE || first != 1 || h != api.ENAME {
					said <- fmt.Sprintf("R5: %q, %v, %08x, %v, %d, %v, %d, %v", got, e, back, f, line, g, first, h)
					return
				}
			}
			said <- ""
		}()
	}
	for range 8 {
		if s := <-said; s != "" {
			t.Error(s)
		}
	}
}
