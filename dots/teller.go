package dots

import (
	"strconv"
	"strings"

	"sextant/api"
)

// none is what stands for the number -1.
const none = "-"

// teller writes a text line by line.
type teller struct {
	text         strings.Builder
	kinds, modes map[int]name
}

// textOf is a plain graph's.
func textOf(g api.Graph) string {
	t := &teller{kinds: turned(kinds()), modes: turned(modes())}
	t.line("graph", tellNumber(g.Cells))
	for _, e := range g.Events {
		t.event(e)
	}
	t.pairs("rf", g.Rf)
	for _, l := range g.Co {
		t.list(l)
	}
	t.pairs("rmw", g.Rmw)
	t.pairs("addr", g.Addr)
	t.pairs("data", g.Data)
	t.pairs("ctrl", g.Ctrl)
	return t.text.String()
}

func (t *teller) line(words ...string) {
	t.text.WriteString(strings.Join(words, " "))
	t.text.WriteString("\n")
}

func (t *teller) event(e api.Event) {
	value := strconv.FormatUint(e.Val, 10)
	t.line("event", tellNumber(e.Thread), t.kinds[e.Kind].text, tellNumber(e.Loc), value, t.modes[e.Mode].text)
}

func (t *teller) pairs(word string, l []api.Pair) {
	for _, p := range l {
		t.line(word, tellNumber(p.A), tellNumber(p.B))
	}
}

func (t *teller) list(l []int) {
	words := []string{"co"}
	for _, n := range l {
		words = append(words, tellNumber(n))
	}
	t.line(words...)
}

func tellNumber(n int) string {
	if n == -1 {
		return none
	}
	return strconv.Itoa(n)
}
