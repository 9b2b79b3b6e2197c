package dots

import (
	"math"
	"strconv"

	"sextant/api"
)

// part is one of a text: the word that its lines begin with, and what takes the words behind that, or tells that they may not be.
type part struct {
	word string
	take func(words []string) bool
}

// parser makes a graph of a text's lines. left are the parts whose lines may come next.
type parser struct {
	graph        api.Graph
	left         []part
	kinds, modes map[string]int
}

func newParser() *parser {
	p := &parser{kinds: kinds(), modes: modes()}
	p.left = []part{{"graph", p.cells}}
	return p
}

// line takes the next one; false, if it may not be, or may not stand there.
func (p *parser) line(text string) bool {
	words := pieces(text, ' ')
	for i, x := range p.left {
		if x.word == words[0] {
			p.left = p.left[i:]
			return x.take(words[1:])
		}
	}
	return false
}

// cells takes the first line: all others come behind it.
func (p *parser) cells(words []string) bool {
	g := &p.graph
	p.left = []part{
		{"event", p.event}, {"rf", into(&g.Rf)}, {"co", p.list},
		{"rmw", into(&g.Rmw)}, {"addr", into(&g.Addr)}, {"data", into(&g.Data)}, {"ctrl", into(&g.Ctrl)},
	}
	l, ok := numbers(words, isCount)
	if !ok || len(l) != 1 {
		return false
	}
	g.Cells = l[0]
	return true
}

func (p *parser) event(words []string) bool {
	if len(words) != 5 || len(p.graph.Events) == api.MaxEvents {
		return false
	}
	thread, isOne := numberOrNone(words[0], isThread)
	loc, isPlace := numberOrNone(words[2], isLoc)
	val, isValue := value(words[3])
	kind, mode := p.kinds[words[1]], p.modes[words[4]]
	if !isOne || !isPlace || !isValue || !isKind(kind) || !isMode(mode) {
		return false
	}
	p.graph.Events = append(p.graph.Events, api.Event{Thread: thread, Kind: kind, Loc: loc, Val: val, Mode: mode})
	return true
}

func (p *parser) list(words []string) bool {
	l, ok := numbers(words, isNumber)
	if !ok || !isCount(len(l)) || len(p.graph.Co) == api.MaxCells {
		return false
	}
	p.graph.Co = append(p.graph.Co, l)
	return true
}

// into takes pairs into a list. A text has no room for more than a list may have.
func into(list *[]api.Pair) func(words []string) bool {
	return func(words []string) bool {
		l, ok := numbers(words, isNumber)
		if !ok || len(l) != 2 {
			return false
		}
		*list = append(*list, api.Pair{A: l[0], B: l[1]})
		return true
	}
}

// pieces are what stands between the separators in a text, ahead of the first one and behind the last.
func pieces(text string, separator rune) []string {
	var out []string
	from := 0
	for i, r := range text {
		if r == separator {
			out = append(out, text[from:i])
			from = i + 1
		}
	}
	return append(out, text[from:])
}

// numbers are those of words of which each is one that may be; false, if there is another one.
func numbers(words []string, may func(n int) bool) ([]int, bool) {
	var out []int
	for _, w := range words {
		n, ok := number(w, may)
		if !ok {
			return nil, false
		}
		out = append(out, n)
	}
	return out, true
}

func numberOrNone(word string, may func(n int) bool) (n int, ok bool) {
	if word == none {
		return -1, true
	}
	return number(word, may)
}

func number(word string, may func(n int) bool) (n int, ok bool) {
	v, ok := value(word)
	if !ok || v > math.MaxInt || !may(int(v)) {
		return 0, false
	}
	return int(v), true
}

// value is what a word tells in digits; false, if it is another word than that by which its value is told.
func value(word string) (v uint64, ok bool) {
	v, err := strconv.ParseUint(word, 10, 64)
	if err != nil || strconv.FormatUint(v, 10) != word {
		return 0, false
	}
	return v, true
}
