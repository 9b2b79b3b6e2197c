package dots_test

import (
	"fmt"
	"slices"
	"strings"
	"testing"

	"sextant/api"
	"sextant/dots"
)

func TestP9_3Examples(t *testing.T) {
	if g, line, e := dots.Parse(exampleText); e != api.OK || line != 0 || !alike(g, example()) {
		t.Errorf("P9.3: Parse is %+v, %d, %v", g, line, e)
	}
	for _, x := range []struct {
		text string
		line int
	}{
		{"", 1}, {"graph 0", 1}, {"graph 00\n", 1}, {"graph 0\nrmw 0 1\nrf 0 1\n", 3},
		{"\n", 1}, {"graph\n", 1}, {"graph \n", 1}, {"graph 0\n\n", 2}, {"graph 0\nco 1", 2}, {"graph 0\nco\n\x00", 3},
		{"graph 0\nx\nco", 2}, {"x\ngraph 0", 1}, {"graph 0\nco \n", 2}, {"graph 0\r\n", 1}, {"event 0 R 0 0 sc\ngraph 0\n", 1},
		{"graph 0\nevent 0 R 0 0 acqrel\n", 2}, {"graph 0\nevent -1 R 0 0 sc\n", 2}, {"graph 0\nevent - R -1 0 sc\n", 2}, {"graph 0\nevent - R - - sc\n", 2},
		{"graph -\n", 1}, {"graph 0\nrf - 0\n", 2}, {"graph 0\nco -\n", 2}, {"graph ٣\n", 1}, {"graph 0_1\n", 1}, {"graph 0x1\n", 1}, {"\ufeffgraph 0\n", 1},
	} {
		if g, line, e := dots.Parse(x.text); e != api.ETEXT || line != x.line || !empty(g) {
			t.Errorf("P9.3: Parse of %q is %+v, %d, %v; want ETEXT at %d", x.text, g, line, e, x.line)
		}
	}
}

// texts are those of small graphs with all that a text may have.
func texts(t *testing.T) []string {
	var out []string
	for _, g := range []api.Graph{{}, example(), full(), ofWords(), made(dice(5), false), made(dice(6), true)} {
		out = append(out, mustText(t, g))
	}
	return out
}

// Each place of a text with something put in, taken out, changed, or cut off there.
func TestP9_3EachPlace(t *testing.T) {
	put := []string{"0", "1", "9", "-", "+", " ", "\n", "\t", "\r", "\x00", "\xff", "\xc3", "é", "\u00a0", "\u2028", "٣", "x", "R", "co", " 0", "0 ", "\n\n", "\nco\n"}
	got := map[bool]int{}
	for i, text := range texts(t) {
		for at := range len(text) + 1 {
			what := fmt.Sprintf("case %d, at %d", i, at)
			if at < len(text) {
				got[holdParse(t, what+" cut off", text[:at])]++
				got[holdParse(t, what+" taken out", text[:at]+text[at+1:])]++
			}
			for _, s := range put {
				got[holdParse(t, what+" put in "+s, text[:at]+s+text[at:])]++
				if at < len(text) {
					got[holdParse(t, what+" changed to "+s, text[:at]+s+text[at+1:])]++
				}
			}
		}
	}
	if got[false] < 10000 || got[true] < 500 {
		t.Errorf("not all is tried: %v", got)
	}
}

// words are all that a text is made of, and some that look like it.
func words() []string {
	return strings.Fields("graph event rf co rmw addr data ctrl R W F - rlx acq rel acq_rel sc plain acquire release ld sy acquirepc " +
		"acqrel SC r w f rw Graph evnt fr -1 -0 +1 00 01 007 0 1 9 10 63 64 65 99 255 256 257 1000 4095 4096 4097 65535 65536 " +
		"9223372036854775807 9223372036854775808 18446744073709551615 18446744073709551616 018446744073709551615 99999999999999999999999999999999999999999 1e3 0x10 1_0")
}

// Each word of a text, changed to each other one.
func TestP9_3EachWord(t *testing.T) {
	got := map[bool]int{}
	for i, text := range texts(t) {
		lines := strings.SplitAfter(text, "\n")
		for k, line := range lines {
			l := strings.Split(strings.TrimSuffix(line, "\n"), " ")
			for m := range l {
				for _, w := range append(words(), "", "0"+l[m], "+"+l[m], "-"+l[m], " "+l[m], l[m]+" ", "\t"+l[m], strings.ToUpper(l[m])) {
					c := slices.Clone(l)
					c[m] = w
					d := slices.Clone(lines)
					d[k] = strings.Join(c, " ") + "\n"
					got[holdParse(t, fmt.Sprintf("case %d: the word %d of the line %d is %q", i, m, k, w), strings.Join(d, ""))]++
				}
			}
		}
	}
	if got[false] < 5000 || got[true] < 1000 {
		t.Errorf("not all is tried: %v", got)
	}
}

// Each line of a text at each other place, twice, and left out.
func TestP9_3EachLine(t *testing.T) {
	got := map[bool]int{}
	for i, text := range texts(t) {
		lines := slices.Collect(strings.Lines(text))
		for k := range lines {
			rest := slices.Delete(slices.Clone(lines), k, k+1)
			got[holdParse(t, fmt.Sprintf("case %d without the line %d", i, k), strings.Join(rest, ""))]++
			for m := range lines {
				moved := slices.Insert(slices.Clone(rest), m, lines[k])
				twice := slices.Insert(slices.Clone(lines), m, lines[k])
				what := fmt.Sprintf("case %d, the line %d at %d", i, k, m)
				got[holdParse(t, what, strings.Join(moved, ""))]++
				got[holdParse(t, what+", twice", strings.Join(twice, ""))]++
			}
		}
	}
	if got[false] < 500 || got[true] < 100 {
		t.Errorf("not all is tried: %v", got)
	}
}

// All orders of up to four lines, one of each part, right or wrong in themselves.
func TestP9_3AllOrders(t *testing.T) {
	lines := []string{"graph 3\n", "event 0 R 0 0 sc\n", "rf 1 2\n", "co\n", "rmw 1 2\n", "addr 1 2\n", "data 1 2\n", "ctrl 1 2\n", "\n", "x"}
	right := 0
	var longer func(text string, left int)
	longer = func(text string, left int) {
		if holdParse(t, "lines", text) {
			right++
		}
		for _, l := range lines {
			if left > 0 {
				longer(text+l, left-1)
			}
		}
	}
	longer("", 4)
	if want := 1 + 7 + 28 + 84; right != want { // behind the first line parts that do not fall
		t.Errorf("P9.3: %d texts are right; want %d", right, want)
	}
}

// The limits of what a text may have, by its lines.
func TestP9_3Limits(t *testing.T) {
	event, list := "event - F - 0 sy\n", "co\n"
	hold := func(what, text string, want int) {
		t.Helper()
		g, line, e := dots.Parse(text)
		if want > 0 && (e != api.ETEXT || line != want || !empty(g)) || want == 0 && (e != api.OK || line != 0 || modelText(g) != text) {
			t.Errorf("P9.3: %s: Parse is %d, %v; want %d", what, line, e, want)
		}
	}
	hold("256 events", "graph 256\n"+strings.Repeat(event, 256), 0)
	hold("257 events", "graph 256\n"+strings.Repeat(event, 257), 258)
	hold("258 events", "graph 256\n"+strings.Repeat(event, 258)+"x\n", 258)
	hold("4096 lists", "graph 0\n"+strings.Repeat(list, 4096)+"rmw 0 0\n", 0)
	hold("4097 lists", "graph 0\n"+strings.Repeat(list, 4097)+"rmw 0 0\n", 4098)
	hold("4097 lists behind events", "graph 0\n"+strings.Repeat(event, 256)+strings.Repeat(list, 4097), 4354)
	hold("256 numbers", "graph 0\nco"+strings.Repeat(" 255", 256)+"\nco 0\n", 0)
	hold("257 numbers", "graph 0\nco"+strings.Repeat(" 255", 257)+"\nco 0\n", 2)
	hold("7000 pairs", "graph 0\n"+strings.Repeat("ctrl 0 0\n", 7000), 0)
	for _, g := range []api.Graph{largest(), {Co: make([][]int, 4096)}} {
		hold("a large graph", modelText(g), 0)
	}
}

// Texts of MaxText bytes, and of more.
func TestP9_3TextLimit(t *testing.T) {
	for n := 65536 - 10; n <= 65536+10; n++ {
		right := modelText(ofLength(n))
		g, line, e := dots.Parse(right)
		if n <= 65536 && (e != api.OK || line != 0 || !alike(g, ofLength(n))) || n > 65536 && (e != api.ELIMIT || line != 0 || !empty(g)) {
			t.Errorf("P9.3: Parse of a right text of %d bytes: %d, %v", n, line, e)
		}
		for text, at := range map[string]int{
			"x" + right[1:]: 1, strings.Repeat("\n", n): 1, strings.Repeat("x", n): 1, right[:n-1] + " ": len(ofLength(n).Rf) + 1,
			"graph 0\n" + strings.Repeat("\xff", n-8): 2,
		} {
			g, line, e := dots.Parse(text)
			if n <= 65536 && (e != api.ETEXT || line != at || !empty(g)) || n > 65536 && (e != api.ELIMIT || line != 0 || !empty(g)) {
				t.Errorf("P9.3: Parse of a wrong text of %d bytes: %d, %v; want %d", n, line, e, at)
			}
		}
	}
	if _, line, e := dots.Parse(strings.Repeat("graph 0\n", 1<<17)); e != api.ELIMIT || line != 0 {
		t.Errorf("P9.3: Parse of a long text: %d, %v", line, e)
	}
}

// Texts of any pieces.
func TestP9_3AnyText(t *testing.T) {
	vocabulary := append(words()[:30], "\n", "\n", " ", "0", "1")
	right := 0
	for i := range 30000 {
		roll := dice(uint64(i))
		var b strings.Builder
		b.WriteString([]string{"", "graph 1\n", "graph 1\n", "graph 1\n", "graph 0\nevent 0 R 0 0 sc\n"}[roll(5)])
		for range roll(5) {
			var line []string
			for range roll(4) {
				line = append(line, vocabulary[roll(len(vocabulary))])
			}
			b.WriteString([]string{"rf 1 2", "co " + fmt.Sprint(roll(300)), "co", "ctrl 1 " + fmt.Sprint(roll(300)), strings.Join(line, " ")}[roll(5)] + "\n")
		}
		if holdParse(t, fmt.Sprint("any ", i), b.String()) {
			right++
		}
	}
	if right < 500 {
		t.Errorf("not all is tried: %d", right)
	}
}
