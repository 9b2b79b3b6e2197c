package graph_test

import (
	"fmt"
	"math"
	"slices"
	"testing"

	"sextant/api"
	"sextant/graph"
)

func TestP8_1Examples(t *testing.T) {
	g := example()
	holdCheck(t, "g", g, false, 0, 0)
	holdCheck(t, "g", g, true, 2, 0)
	theirs := withModes(g, api.Plain, api.Plain, api.Acquire, api.FenceSy)
	for _, c := range []struct {
		what     string
		of       api.Graph
		turn     func(g *api.Graph)
		words    bool
		rule, at int
	}{
		{"Rf (0, 2)", g, func(g *api.Graph) { g.Rf = pairs(0, 2) }, false, 4, 0},
		{"no Rf", g, func(g *api.Graph) { g.Rf = nil }, false, 4, 0},
		{"Rf (1, 2) twice", g, func(g *api.Graph) { g.Rf = pairs(1, 2, 1, 2) }, false, 4, 1},
		{"Co (1 0)", g, func(g *api.Graph) { g.Co = [][]int{{1, 0}} }, false, 5, 0},
		{"no list", g, func(g *api.Graph) { g.Co = nil }, false, 5, 0},
		{"Co (0 1), ()", g, func(g *api.Graph) { g.Co = [][]int{{0, 1}, {}} }, false, 5, 1},
		{"the event 3's Mode Rlx", g, func(g *api.Graph) { g.Events[3].Mode = api.Rlx }, false, 3, 3},
		{"Rmw (2, 3)", g, func(g *api.Graph) { g.Rmw = pairs(2, 3) }, false, 6, 0},
		{"Ctrl (2, 3)", g, func(g *api.Graph) { g.Ctrl = pairs(2, 3) }, false, 9, 0},
		{"Ctrl (2, 3)", theirs, func(g *api.Graph) { g.Ctrl = pairs(2, 3) }, true, 0, 0},
		{"Addr (2, 3)", theirs, func(g *api.Graph) { g.Addr = pairs(2, 3) }, true, 7, 0},
		{"the first event alone", g, func(g *api.Graph) { *g = initial(1, false) }, false, 0, 0},
	} {
		h := copyGraph(c.of)
		c.turn(&h)
		holdCheck(t, c.what, h, c.words, c.rule, c.at)
	}
}

func TestP8_1RightGraphs(t *testing.T) {
	for _, words := range []bool{false, true} {
		for i, g := range right(words) {
			holdCheck(t, fmt.Sprint("right graph ", i), g, words, 0, 0)
		}
	}
}

// A graph without events is well-formed both ways. One with an initial write is so one way alone: the rule 2 says which mode it has.
func TestP8_1InitialWrites(t *testing.T) {
	for _, words := range []bool{false, true} {
		holdCheck(t, "nothing", api.Graph{}, words, 0, 0)
		holdCheck(t, "empty lists", api.Graph{Events: []api.Event{}, Rf: pairs(), Co: [][]int{}, Rmw: []api.Pair{}, Addr: []api.Pair{}, Data: []api.Pair{}, Ctrl: []api.Pair{}}, words, 0, 0)
		for _, n := range []int{1, 2, 64, 255, 256} {
			g := initial(n, words)
			holdCheck(t, fmt.Sprint(n, " initial writes"), g, words, 0, 0)
			holdCheck(t, fmt.Sprint(n, " initial writes"), g, !words, 2, 0)
			g.Events[n-1].Mode = plain(!words)
			holdCheck(t, fmt.Sprint(n, " initial writes, the last of the other kind"), g, words, 2, n-1)
		}
	}
}

func TestP8_1Sizes(t *testing.T) {
	events := func(n int) []api.Event { return slices.Repeat([]api.Event{fence(0, api.SC)}, n) }
	for n, rule := range map[int]int{0: 0, 1: 0, 255: 0, 256: 0, 257: 1, 1000: 1, 4096: 1, 1 << 20: 1} {
		holdCheck(t, fmt.Sprint(n, " events"), api.Graph{Events: events(n)}, false, rule, 0)
	}
	for _, n := range far {
		for _, words := range []bool{false, true} {
			if n < 0 || n > 10 {
				holdCheck(t, fmt.Sprint(n, " cells, 10 events"), api.Graph{Cells: n, Events: events(10)}, words, 1, 0)
			}
			if n < 0 || n > 256 {
				holdCheck(t, fmt.Sprint(n, " cells, all events"), api.Graph{Cells: n, Events: initial(256, words).Events}, words, 1, 0)
			}
		}
	}
	for _, n := range []int{257, 4095, 4096, 4097} {
		holdCheck(t, fmt.Sprint(n, " initial writes"), initial(n, false), false, 1, 0)
		holdCheck(t, fmt.Sprint(n, " initial writes"), initial(n, true), true, 1, 0)
	}
	g := initial(256, false)
	g.Cells = 255
	holdCheck(t, "255 cells, the event 255 as an initial write", g, false, 3, 255)
	g = largest(true)
	holdCheck(t, "256 events", g, true, 0, 0)
	g.Events = append(g.Events, fence(0, api.FenceSy))
	holdCheck(t, "257 events", g, true, 1, 0)
}

// An initial write, each of whose fields is turned.
func TestP8_1OneInitialWrite(t *testing.T) {
	for _, words := range []bool{false, true} {
		for c := range 3 {
			turn := func(what string, n int, f func(e *api.Event), right bool) {
				g := several(words)
				f(&g.Events[c])
				if right {
					holdCheck(t, fmt.Sprintf("event %d, %s %d", c, what, n), g, words, 0, 0)
				} else {
					holdCheck(t, fmt.Sprintf("event %d, %s %d", c, what, n), g, words, 2, c)
				}
			}
			for _, n := range append(far, 12, 13, 14, 15) {
				turn("Thread", n, func(e *api.Event) { e.Thread = n }, n == -1)
				turn("Kind", n, func(e *api.Event) { e.Kind = n }, n == api.Write)
				turn("Loc", n, func(e *api.Event) { e.Loc = n }, n == c)
				turn("Val", n, func(e *api.Event) { e.Val = uint64(n) }, n == 0)
				turn("Mode", n, func(e *api.Event) { e.Mode = n }, n == plain(words))
			}
		}
	}
}

// All small events behind two initial writes, with what Rf and Co must have of them.
func TestP8_1OneOtherEvent(t *testing.T) {
	threads := []int{math.MinInt, -2, -1, 0, 1, 62, 63, 64, 65, math.MaxInt}
	locs := []int{math.MinInt, -2, -1, 0, 1, 2, 3, math.MaxInt}
	for _, words := range []bool{false, true} {
		for kind := -1; kind < 6; kind++ {
			for mode := -2; mode < 20; mode++ {
				for _, thread := range threads {
					for _, loc := range locs {
						for _, val := range []uint64{0, 1, 1 << 63} {
							oneOther(t, api.Event{Thread: thread, Kind: kind, Loc: loc, Val: val, Mode: mode}, words)
						}
					}
				}
			}
		}
	}
	for _, n := range []int{math.MinInt, math.MinInt32, 1 << 31, 1 << 32, 1<<32 + 1, 1<<32 + 11, math.MaxInt, 64 + 1, 64 + 11, 1<<62 + 1} {
		oneOther(t, write(0, 0, 1, n), false)
		oneOther(t, write(0, 0, 1, n), true)
		oneOther(t, api.Event{Kind: n, Mode: api.Rlx}, false)
	}
}

func oneOther(t *testing.T, e api.Event, words bool) {
	t.Helper()
	g := initial(2, words)
	g.Events = append(g.Events, e)
	place := 0 <= e.Loc && e.Loc < 2
	rule, at := 3, 2
	switch {
	case e.Thread < 0 || e.Thread > 63 || e.Kind < 1 || e.Kind > 3 || !slices.Contains(modesOf(e.Kind, words), e.Mode):
	case e.Kind == api.Fence && e.Loc == -1 && e.Val == 0:
		rule, at = 0, 0
	case e.Kind == api.Write && place:
		g.Co[e.Loc] = append(g.Co[e.Loc], 2)
		rule, at = 0, 0
	case e.Kind == api.Read && place:
		g.Rf = pairs(e.Loc, 2)
		rule, at = 0, 0
		if e.Val != 0 {
			rule = 4
		}
	}
	holdCheck(t, fmt.Sprintf("%+v", e), g, words, rule, at)
}

// Which numbers an end of a pair may have: all small ones, and far ones, at each place of each list.
func TestP8_1AllEnds(t *testing.T) {
	for _, words := range []bool{false, true} {
		ends := slices.Concat(far, []int{4, 6, 7, 8, 9, 10, 12, 13, 14, 15, 17, 18, 19})
		for k := range 5 {
			g := several(words)
			for i := range len(*lists(&g)[k]) + 1 {
				for _, a := range ends {
					for _, b := range ends {
						h := copyGraph(g)
						l := lists(&h)[k]
						*l = slices.Insert(*l, i, api.Pair{A: a, B: b})
						rule, at := model(h, words)
						holdCheck(t, fmt.Sprintf("list %d, (%d, %d) put in at %d", k, a, b, i), h, words, rule, at)
						if i < len(*l)-1 {
							*l = slices.Delete(*l, i+1, i+2)
							rule, at = model(h, words)
							holdCheck(t, fmt.Sprintf("list %d, (%d, %d) at %d", k, a, b, i), h, words, rule, at)
						}
					}
				}
			}
		}
	}
}

func TestP8_1Rf(t *testing.T) {
	for _, words := range []bool{false, true} {
		g := several(words)
		for n := range len(g.Rf) {
			h := copyGraph(g)
			h.Rf = h.Rf[:n]
			holdCheck(t, fmt.Sprint(n, " pairs of Rf"), h, words, 4, n)
			h = copyGraph(g)
			h.Rf = slices.Delete(h.Rf, n, n+1)
			holdCheck(t, fmt.Sprint("Rf without the pair ", n), h, words, 4, n)
			for m := range n {
				h = copyGraph(g)
				h.Rf[n], h.Rf[m] = h.Rf[m], h.Rf[n]
				holdCheck(t, fmt.Sprintf("Rf, %d and %d swapped", m, n), h, words, 4, m)
				h.Rf = h.Rf[:n]
				holdCheck(t, fmt.Sprintf("Rf, %d out of order, %d missing", m, n), h, words, 4, m)
			}
		}
		for _, p := range pairs(9, 17, 17, 17, 0, 3, -1, 18, 2, 8, math.MaxInt, math.MinInt) {
			h := copyGraph(g)
			h.Rf = append(h.Rf, p, p)
			holdCheck(t, fmt.Sprint("Rf too long, by ", p), h, words, 4, 6)
			h.Rf[5].A = 3
			holdCheck(t, "a wrong pair ahead of one too many", h, words, 4, 5)
		}
		h := initial(2, words)
		h.Rf = pairs(0, 1)
		holdCheck(t, "Rf of a graph without a read", h, words, 4, 0)
		holdCheck(t, "Rf of no graph", api.Graph{Rf: pairs(0, 0)}, words, 4, 0)
	}
}

// A write that a read may read has its cell and its value; whose it is, and where it stands, doesn't matter.
func TestP8_1WhatMayBeRead(t *testing.T) {
	g := api.Graph{
		Cells: 2, Co: [][]int{{0, 3, 6, 4}, {1, 5}}, Rf: pairs(0, 2),
		Events: []api.Event{write(-1, 0, 0, 1), write(-1, 1, 0, 1), read(0, 0, 0, 1), write(0, 0, 0, 5), write(1, 0, 0, 3), write(0, 1, 0, 1), write(0, 0, 1, 1), fence(0, 5)},
	}
	for a := -2; a < 10; a++ {
		g.Rf[0].A = a
		if a == 0 || a == 3 || a == 4 {
			holdCheck(t, fmt.Sprint("read of ", a), g, false, 0, 0)
		} else {
			holdCheck(t, fmt.Sprint("read of ", a), g, false, 4, 0)
		}
	}
}

// All lists of up to four numbers, as those of the first and of the second cell.
func TestP8_1Co(t *testing.T) {
	g := api.Graph{
		Cells: 2, Rf: pairs(0, 3),
		Events: []api.Event{write(-1, 0, 0, 1), write(-1, 1, 0, 1), write(0, 0, 1, 1), read(0, 0, 0, 1), write(1, 0, 1, 1), write(1, 1, 2, 1)},
	}
	ends := []int{math.MinInt, -1, 0, 1, 2, 3, 4, 5, 6, math.MaxInt}
	var grow func(l []int)
	grow = func(l []int) {
		first := slices.Equal(l, []int{0, 2, 4}) || slices.Equal(l, []int{0, 4, 2})
		second := slices.Equal(l, []int{1, 5})
		for _, c := range []struct {
			co       [][]int
			rule, at int
		}{{[][]int{l, {1, 5}}, 5, 0}, {[][]int{{0, 4, 2}, l}, 5, 1}, {[][]int{l, {5, 1}}, 5, 0}, {[][]int{l}, 5, 0}, {[][]int{{0, 2, 4}, l, l}, 5, 1}} {
			g.Co = c.co
			rule, at := c.rule, c.at
			if first && at == 0 {
				rule, at = 5, 1
			} else if second && at == 1 {
				rule, at = 5, 2
			}
			if first && slices.Equal(c.co[len(c.co)-1], []int{1, 5}) || second && len(c.co) == 2 && c.at == 1 {
				rule, at = 0, 0
			}
			holdCheck(t, fmt.Sprint("Co ", c.co), g, false, rule, at)
		}
		if len(l) < 4 {
			for _, n := range ends {
				grow(append(slices.Clone(l), n))
			}
		}
	}
	grow(nil)
}

// How many lists Co has: a place, too, behind wrong lists below it.
func TestP8_1HowManyOrders(t *testing.T) {
	for _, words := range []bool{false, true} {
		for n := range 8 {
			for wrong := range 9 {
				g := initial(4, words)
				for len(g.Co) < n {
					g.Co = append(g.Co, []int{0})
				}
				g.Co = g.Co[:n]
				if wrong < n {
					g.Co[wrong] = nil
				}
				rule, at := 5, min(n, 4)
				if n == 4 && wrong >= n {
					rule, at = 0, 0
				}
				if wrong < min(n, 4) {
					at = wrong
				}
				holdCheck(t, fmt.Sprintf("%d lists, %d wrong", n, wrong), g, words, rule, at)
			}
		}
		holdCheck(t, "a list without a cell", api.Graph{Co: [][]int{nil}}, words, 5, 0)
	}
}

// Of several wrong lists the first is told, every time.
func TestP8_1FirstOfManyOrders(t *testing.T) {
	for first := range 200 {
		g := initial(200, false)
		for c := first; c < 200; c += 1 + first%3 {
			g.Co[c] = [][]int{nil, {c, c}, {c + 1}}[c%3]
		}
		for range 5 {
			holdCheck(t, fmt.Sprint("lists from ", first, " on wrong"), g, false, 5, first)
		}
	}
}

func TestP8_1Rmw(t *testing.T) {
	for _, words := range []bool{false, true} {
		for what, c := range map[string]struct {
			l  []api.Pair
			at int // -1: right
		}{
			"none": {nil, -1}, "one": {pairs(7, 9), -1}, "two": {pairs(3, 5, 8, 10), -1}, "all": {pairs(3, 5, 7, 9, 8, 10), -1},
			"falling": {pairs(7, 9, 3, 5), 1}, "one twice": {pairs(3, 5, 3, 5), 1}, "one twice, apart": {pairs(3, 5, 7, 9, 3, 5), 2}, "A twice": {pairs(3, 5, 3, 11), 1},
			"another thread's write": {pairs(3, 4), 0}, "another cell's write": {pairs(12, 14), 0}, "not the next one": {pairs(7, 9, 8, 10, 12, 14), 2}, "a fence": {pairs(12, 13), 0},
			"a later write of the thread": {pairs(3, 11), 0}, "a read": {pairs(7, 12), 0}, "turned": {pairs(5, 3), 0}, "itself": {pairs(3, 3), 0}, "from a write": {pairs(5, 11), 0},
			"from an initial write": {pairs(0, 4), 0}, "from a fence": {pairs(3, 5, 6, 11), 1}, "nothing behind": {pairs(3, 5, 17, 18), 1}, "to an initial write": {pairs(3, 0), 0},
			"ends far away": {pairs(3, 5, math.MaxInt, math.MinInt), 1}, "ends far away, first": {pairs(math.MinInt, math.MaxInt), 0},
		} {
			g := several(words)
			g.Rmw = c.l
			if c.at < 0 {
				holdCheck(t, "Rmw: "+what, g, words, 0, 0)
			} else {
				holdCheck(t, "Rmw: "+what, g, words, 6, c.at)
			}
		}
	}
	g := several(false)
	g.Events[9].Loc, g.Co, g.Rf[5].A, g.Events[17].Val = 2, [][]int{{0, 14, 4, 5}, {1}, {2, 10, 11, 9}}, 1, 0
	holdCheck(t, "Rmw: a write next behind, of another cell", g, false, 6, 1)
}

func TestP8_1Dependencies(t *testing.T) {
	for k, name := range []string{2: "Addr", 3: "Data", 4: "Ctrl"} {
		if name == "" {
			continue
		}
		rule := 5 + k
		for what, c := range map[string]struct {
			l  []api.Pair
			at [3]int // of Addr, Data, Ctrl; -1: right
		}{
			"none": {nil, [3]int{-1, -1, -1}}, "to the next write": {pairs(3, 5), [3]int{-1, -1, -1}}, "to a later write": {pairs(3, 11), [3]int{-1, -1, -1}},
			"to a read": {pairs(3, 5, 3, 17), [3]int{-1, 1, -1}}, "to a fence": {pairs(3, 5, 3, 6), [3]int{1, 1, -1}}, "to the last fence": {pairs(3, 16), [3]int{0, 0, -1}},
			"several":      {pairs(3, 5, 3, 11, 7, 9, 7, 14, 8, 10, 12, 14), [3]int{-1, -1, -1}},
			"falling by A": {pairs(7, 9, 3, 5), [3]int{1, 1, 1}}, "falling by A, rising by B": {pairs(3, 5, 12, 14, 8, 10), [3]int{2, 2, 2}}, "falling by B": {pairs(3, 11, 3, 5), [3]int{1, 1, 1}},
			"twice": {pairs(3, 5, 3, 5), [3]int{1, 1, 1}}, "twice, apart": {pairs(3, 5, 3, 11, 3, 5), [3]int{2, 2, 2}},
			"another thread's": {pairs(3, 4), [3]int{0, 0, 0}}, "ahead": {pairs(17, 11), [3]int{0, 0, 0}}, "itself": {pairs(3, 3), [3]int{0, 0, 0}},
			"from a write": {pairs(5, 11), [3]int{0, 0, 0}}, "from a fence": {pairs(6, 11), [3]int{0, 0, 0}}, "between initial writes": {pairs(0, 1), [3]int{0, 0, 0}}, "to an initial write": {pairs(3, 0), [3]int{0, 0, 0}},
			"no event": {pairs(3, 5, 3, 18), [3]int{1, 1, 1}}, "no event, negative": {pairs(-1, 5), [3]int{0, 0, 0}}, "far away": {pairs(math.MinInt, math.MaxInt), [3]int{0, 0, 0}},
			"from no event": {pairs(3, 5, 18, 19), [3]int{1, 1, 1}}, "to far away": {pairs(3, math.MaxInt), [3]int{0, 0, 0}}, "a first one": {pairs(3, math.MinInt), [3]int{0, 0, 0}},
		} {
			g := several(true)
			g.Addr, g.Data, g.Ctrl = nil, nil, nil
			*lists(&g)[k] = c.l
			if at := c.at[k-2]; at < 0 {
				holdCheck(t, name+": "+what, g, true, 0, 0)
			} else {
				holdCheck(t, name+": "+what, g, true, rule, at)
			}
			g = several(false)
			*lists(&g)[k] = c.l
			if c.l == nil {
				holdCheck(t, name+" of the source: "+what, g, false, 0, 0)
			} else {
				holdCheck(t, name+" of the source: "+what, g, false, rule, 0)
			}
		}
	}
}

// broken is a graph's rule that is broken at a place.
type broken struct {
	rule, at int
	what     string
	turn     func(g *api.Graph)
}

// breaks are ways to break each rule of several(words): none of them keeps one with a greater number from being broken as well.
func breaks(words bool) []broken {
	out := []broken{
		{1, 0, "negative Cells", func(g *api.Graph) { g.Cells = -1 }},
		{1, 0, "too many Cells", func(g *api.Graph) { g.Cells = api.MaxCells + 1 }},
		{1, 0, "too few events", func(g *api.Graph) { g.Events = g.Events[:2] }},
		{1, 0, "too many events", func(g *api.Graph) { g.Events = append(g.Events, make([]api.Event, 256)...) }},
		{3, 7, "a fourth cell", func(g *api.Graph) { g.Events[7].Loc = 3 }},
		{3, 18, "an event of no kind", func(g *api.Graph) { g.Events = append(g.Events, api.Event{}) }},
		{4, 6, "Rf too long", func(g *api.Graph) { g.Rf = append(g.Rf, g.Rf[5]) }},
		{4, 5, "Rf too short", func(g *api.Graph) { g.Rf = g.Rf[:5] }},
		{5, 3, "a list too many", func(g *api.Graph) { g.Co = append(g.Co, nil) }},
		{5, 2, "a list too few", func(g *api.Graph) { g.Co = g.Co[:2] }},
		{6, 3, "a pair that falls", func(g *api.Graph) { g.Rmw = append(g.Rmw, api.Pair{A: 1, B: 2}) }},
	}
	for c := range 3 {
		out = append(out, broken{2, c, "an initial value", func(g *api.Graph) { g.Events[c].Val = 3 }})
		out = append(out, broken{2, c, "an initial mode", func(g *api.Graph) { g.Events[c].Mode = api.SC }})
		out = append(out, broken{5, c, "an empty list", func(g *api.Graph) {
			if c < len(g.Co) {
				g.Co[c] = nil
			}
		}})
	}
	for i := range 15 {
		out = append(out, broken{3, 3 + i, "a thread", func(g *api.Graph) { g.Events[3+i].Thread = 64 }})
	}
	for i := range 5 {
		out = append(out, broken{4, i, "what is read", func(g *api.Graph) { g.Rf[i].A = -1 }})
	}
	for k := 1; k < 5; k++ {
		g := several(words)
		for i := range *lists(&g)[k] {
			out = append(out, broken{5 + k, i, "an end", func(g *api.Graph) { (*lists(g)[k])[i].B = 99 }})
		}
	}
	if !words {
		out = append(out, broken{7, 0, "Addr of the source", func(g *api.Graph) { g.Addr = pairs(3, 5) }},
			broken{8, 0, "Data of the source", func(g *api.Graph) { g.Data = pairs(3, 5) }}, broken{9, 0, "Ctrl of the source", func(g *api.Graph) { g.Ctrl = pairs(3, 5) }})
	}
	return out
}

// Each rule by itself, and each two at once: the first is told.
func TestP8_1TwoRulesAtOnce(t *testing.T) {
	for _, words := range []bool{false, true} {
		all := breaks(words)
		for _, x := range all {
			g := several(words)
			x.turn(&g)
			holdCheck(t, x.what, g, words, x.rule, x.at)
			for _, y := range all {
				if y.rule <= x.rule {
					continue
				}
				g := several(words)
				y.turn(&g)
				x.turn(&g)
				holdCheck(t, x.what+", "+y.what, g, words, x.rule, x.at)
				if r, a := model(g, words); r != x.rule || a != x.at {
					t.Fatalf("the model: %s, %s: %d, %d", x.what, y.what, r, a)
				}
			}
		}
	}
}

// One rule broken at two places: the first is told.
func TestP8_1TwoPlacesAtOnce(t *testing.T) {
	for _, words := range []bool{false, true} {
		for _, x := range breaks(words) {
			for _, y := range breaks(words) {
				if x.rule != y.rule || x.rule == 1 || x.at >= y.at || y.what == "a list too few" {
					continue
				}
				g := several(words)
				y.turn(&g)
				x.turn(&g)
				holdCheck(t, fmt.Sprint(x.what, " at ", x.at, ", ", y.what, " at ", y.at), g, words, x.rule, x.at)
			}
		}
	}
}

// A graph of the one kind breaks a rule as one of the other: the second, if there is a cell, else the third.
func TestP8_1TheOtherKind(t *testing.T) {
	for _, words := range []bool{false, true} {
		for i, g := range right(words) {
			rule, at := 2, 0
			if g.Cells == 0 {
				rule = 3
			}
			if len(g.Events) == 0 {
				rule, at = 0, 0
			}
			holdCheck(t, fmt.Sprint("right graph ", i), g, !words, rule, at)
		}
	}
	g := several(false)
	for c := range 3 {
		g.Events[c].Mode = api.Plain
	}
	holdCheck(t, "initial writes of the words ahead of the source's events", g, true, 3, 3)
	holdCheck(t, "initial writes of the words ahead of the source's events", g, false, 2, 0)
	if _, e := graph.Derive(g); e != api.EGRAPH {
		t.Errorf("P8.2: half of the one kind, half of the other: %v", e)
	}
}

// Lists far longer than any graph's end soon.
func TestR1LongLists(t *testing.T) {
	long := slices.Repeat(pairs(3, 5), 1<<20)
	for _, words := range []bool{false, true} {
		g := several(words)
		g.Rf = append(g.Rf, long...)
		holdCheck(t, "a long Rf", g, words, 4, 6)
		for k, l := range lists(&g) {
			g = several(words)
			*l = long
			rule, at := 5+k, 1
			if k == 0 {
				rule, at = 4, 0
			} else if k > 1 && !words {
				at = 0
			}
			holdCheck(t, fmt.Sprint("a long list ", k), g, words, rule, at)
		}
		g = several(words)
		g.Co[1] = make([]int, 1<<20)
		holdCheck(t, "a long list of Co", g, words, 5, 1)
		g = several(words)
		g.Co = append(g.Co, make([][]int, 1<<20)...)
		holdCheck(t, "many lists of Co", g, words, 5, 3)
	}
}
