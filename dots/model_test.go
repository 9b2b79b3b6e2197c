package dots_test

import (
	"bytes"
	"encoding/binary"
	"fmt"
	"math/big"
	"regexp"
	"slices"
	"strings"
	"testing"

	"sextant/api"
	"sextant/dots"
)

// within tells whether a number is from low to high.
func within(n, low, high int) bool { return n >= low && n <= high }

// plain is the chapter's word.
func plain(g api.Graph) bool {
	ok := within(g.Cells, 0, 256) && len(g.Events) <= 256 && len(g.Co) <= 4096
	for _, e := range g.Events {
		ok = ok && within(e.Thread, -1, 63) && within(e.Kind, 1, 3) && within(e.Loc, -1, 4095) && slices.Contains(allModes, e.Mode)
	}
	for _, l := range lists(&g) {
		ok = ok && len(*l) <= 65535
	}
	for _, l := range g.Co {
		ok = ok && len(l) <= 256
	}
	for _, n := range points(g) {
		ok = ok && within(n, 0, 255)
	}
	return ok
}

// points are the numbers in pairs and in Co.
func points(g api.Graph) []int {
	out := slices.Concat(g.Co...)
	for _, l := range lists(&g) {
		for _, p := range *l {
			out = append(out, p.A, p.B)
		}
	}
	return out
}

// inside tells whether each of these is that of an event.
func inside(g api.Graph) bool {
	return !slices.ContainsFunc(points(g), func(n int) bool { return n < 0 || n >= len(g.Events) })
}

// modelPut tells a plain graph's bytes.
func modelPut(g api.Graph) []byte {
	var b bytes.Buffer
	put := func(numbers ...any) {
		for _, n := range numbers {
			if err := binary.Write(&b, binary.BigEndian, n); err != nil {
				panic(err)
			}
		}
	}
	put(byte('G'), uint16(g.Cells), uint16(len(g.Events)))
	for _, e := range g.Events {
		put(byte(e.Thread+1), byte(e.Kind), uint16(e.Loc+1), e.Val, byte(e.Mode))
	}
	for _, l := range [][]api.Pair{g.Rf, g.Rmw, g.Addr, g.Data, g.Ctrl} {
		put(uint16(len(l)))
		for _, p := range l {
			put(byte(p.A), byte(p.B))
		}
	}
	put(uint16(len(g.Co)))
	for _, l := range g.Co {
		put(uint16(len(l)))
		for _, n := range l {
			put(byte(n))
		}
	}
	return b.Bytes()
}

var modelNames = []string{1: "rlx", 2: "acq", 3: "rel", 4: "acq_rel", 5: "sc", 11: "plain", 12: "acquire", 13: "release", 14: "ld", 15: "sy", 16: "acquirepc"}

// modelText tells a plain graph's text, however long it is.
func modelText(g api.Graph) string {
	var b strings.Builder
	dash := func(n int) string { return strings.Replace(fmt.Sprint(n), "-1", "-", 1) }
	fmt.Fprintf(&b, "graph %d\n", g.Cells)
	for _, e := range g.Events {
		fmt.Fprintf(&b, "event %s %c %s %d %s\n", dash(e.Thread), " RWF"[e.Kind], dash(e.Loc), e.Val, modelNames[e.Mode])
	}
	told := func(word string, l []api.Pair) {
		for _, p := range l {
			fmt.Fprintf(&b, "%s %d %d\n", word, p.A, p.B)
		}
	}
	told("rf", g.Rf)
	for _, l := range g.Co {
		b.WriteString("co")
		for _, n := range l {
			fmt.Fprintf(&b, " %d", n)
		}
		b.WriteByte('\n')
	}
	told("rmw", g.Rmw)
	told("addr", g.Addr)
	told("data", g.Data)
	told("ctrl", g.Ctrl)
	return b.String()
}

// wrongByte tells where bytes are wrong, -1 if nowhere: it keeps what is to come as a stack of work, the next one at its end.
func wrongByte(b []byte) int {
	type work struct {
		size int // of a number, 0 for something that is done so many times
		may  func(n uint64) bool
		then func(n int)
		left int
	}
	var stack []work
	push := func(size int, may func(n uint64) bool, then func(n int)) {
		stack = append(stack, work{size: size, may: may, then: then})
	}
	times := func(f func()) func(n int) {
		return func(n int) { stack = append(stack, work{left: n, then: func(int) { f() }}) }
	}
	point := func() { push(1, upTo(0, 255), nil) }
	event := func() {
		push(1, func(n uint64) bool { return slices.Contains(allModes, int(n)) }, nil)
		push(8, func(n uint64) bool { return true }, nil)
		push(2, upTo(0, 4096), nil)
		push(1, upTo(1, 3), nil)
		push(1, upTo(0, 64), nil)
	}
	push(2, upTo(0, 4096), times(func() { push(2, upTo(0, 256), times(point)) }))
	for range 5 {
		push(2, upTo(0, 65535), times(func() { point(); point() }))
	}
	push(2, upTo(0, 256), times(event))
	push(2, upTo(0, 256), nil)
	push(1, upTo(71, 71), nil)
	at := 0
	for len(stack) > 0 {
		top := &stack[len(stack)-1]
		if top.size == 0 && top.left > 0 {
			top.left--
			top.then(0)
			continue
		}
		next := *top
		stack = stack[:len(stack)-1]
		if at+next.size > len(b) {
			return len(b)
		}
		n := uint64(0)
		for _, x := range b[at : at+next.size] {
			n = n*256 + uint64(x)
		}
		if next.may != nil && !next.may(n) {
			return at
		}
		at += next.size
		if next.size > 0 && next.then != nil {
			next.then(int(n))
		}
	}
	if at < len(b) {
		return at
	}
	return -1
}

func upTo(low, high uint64) func(n uint64) bool {
	return func(n uint64) bool { return n >= low && n <= high }
}

// holdGet holds Get of bytes against the model, and tells whether they are right.
func holdGet(t *testing.T, what string, b []byte) bool {
	t.Helper()
	want := wrongByte(b)
	g, at, e := dots.Get(b)
	switch {
	case want >= 0 && (e != api.EBYTES || at != want || !empty(g)):
		t.Fatalf("P9.2: %s: Get is %+v, %d, %v; want EBYTES at %d: % d", what, g, at, e, want, b)
	case want < 0 && (e != api.OK || at != 0 || !plain(g) || !bytes.Equal(modelPut(g), b)):
		t.Fatalf("P9.2: %s: Get is %+v, %d, %v: % d", what, g, at, e, b)
	}
	return want < 0
}

// The lines of a text, each by one letter of what a text may be made of.
var (
	number    = `(0|[1-9][0-9]*)`
	mayFollow = regexp.MustCompile(`^ge*r*c*m*a*d*t*$`)
	forms     = map[string]*regexp.Regexp{
		"g": regexp.MustCompile(`^graph ` + number + `\n$`),
		"e": regexp.MustCompile(`^event (-|` + number + `) [RWF] (-|` + number + `) ` + number + ` (rlx|acq|rel|acq_rel|sc|plain|acquire|release|ld|sy|acquirepc)\n$`),
		"r": regexp.MustCompile(`^rf ` + number + ` ` + number + `\n$`),
		"c": regexp.MustCompile(`^co( ` + number + `)*\n$`),
		"m": regexp.MustCompile(`^rmw ` + number + ` ` + number + `\n$`),
		"a": regexp.MustCompile(`^addr ` + number + ` ` + number + `\n$`),
		"d": regexp.MustCompile(`^data ` + number + ` ` + number + `\n$`),
		"t": regexp.MustCompile(`^ctrl ` + number + ` ` + number + `\n$`),
	}
	limits = map[string][]string{"g": {"256"}, "e": {"63", "", "4095", "18446744073709551615"}}
)

// letterOf is that of a line of a plain graph's text; "!" of another one.
func letterOf(line string) string {
	for letter, form := range forms {
		if !form.MatchString(line) {
			continue
		}
		words := strings.Split(strings.TrimSuffix(line, "\n"), " ")[1:]
		if len(words) > 256 {
			return "!"
		}
		for i, w := range words {
			limit := "255"
			if l := limits[letter]; l != nil {
				limit = append(l, "")[i]
			}
			n, isNumber := new(big.Int).SetString(w, 10)
			most, isLimit := new(big.Int).SetString(limit, 10)
			if isNumber && isLimit && n.Cmp(most) > 0 {
				return "!"
			}
		}
		return letter
	}
	return "!"
}

// wrongLine tells where a text is wrong, 0 if nowhere.
func wrongLine(text string) int {
	shape := ""
	for i, line := range slices.Collect(strings.Lines(text)) {
		shape += letterOf(line)
		if !mayFollow.MatchString(shape) || strings.Count(shape, "e") > 256 || strings.Count(shape, "c") > 4096 {
			return i + 1
		}
	}
	if shape == "" {
		return 1
	}
	return 0
}

// holdParse holds Parse of a text against the model, and tells whether it is right.
func holdParse(t *testing.T, what, text string) bool {
	t.Helper()
	want := wrongLine(text)
	g, line, e := dots.Parse(text)
	switch {
	case want > 0 && (e != api.ETEXT || line != want || !empty(g)):
		t.Fatalf("P9.3: %s: Parse is %+v, %d, %v; want ETEXT at %d: %q", what, g, line, e, want, text)
	case want == 0 && (e != api.OK || line != 0 || !plain(g) || modelText(g) != text):
		t.Fatalf("P9.3: %s: Parse is %+v, %d, %v: %q", what, g, line, e, text)
	}
	return want == 0
}
