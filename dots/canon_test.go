package dots_test

import (
	"fmt"
	"slices"
	"testing"

	"sextant/api"
	"sextant/dots"
	"sextant/graph"
)

func TestP9_4Examples(t *testing.T) {
	g := api.Graph{Events: []api.Event{read(1, 0, 0, 1), write(-1, 0, 0, 1), read(0, 0, 0, 1)}, Rf: pairs(1, 0, 1, 2)}
	want := api.Graph{Events: []api.Event{write(-1, 0, 0, 1), read(0, 0, 0, 1), read(1, 0, 0, 1)}, Rf: pairs(0, 1, 0, 2)}
	if h := mustCanon(t, g); !alike(h, want) {
		t.Errorf("P9.4: Canon is %+v", h)
	}
	if h := mustCanon(t, example()); !alike(h, example()) {
		t.Errorf("P9.4: Canon of the example is %+v", h)
	}
	if h := mustCanon(t, api.Graph{Cells: 256, Co: make([][]int, 4096)}); h.Cells != 256 || len(h.Co) != 4096 {
		t.Errorf("P9.4: Canon without an event is %+v", h)
	}
}

// Told by hand: every list, pairs twice, lists of Co out of their order, threads from -1 to 63.
func TestP9_4Full(t *testing.T) {
	e := []api.Event{fence(63, 1), fence(2, 2), fence(-1, 3), fence(2, 4), fence(0, 5), fence(63, 11), fence(-1, 12)}
	l := pairs(0, 1, 6, 3, 0, 1, 2, 5, 6, 2, 4, 1) // 5 3, 1 4, 5 3, 0 6, 1 0, 2 3
	g := api.Graph{Cells: 9, Events: e, Rf: l, Rmw: l, Addr: l[:5], Data: l[:4], Ctrl: l[:3], Co: [][]int{{5, 6, 0}, nil, {2, 2, 1}, {3}}}
	want := api.Graph{
		Cells: 9, Events: []api.Event{e[2], e[6], e[4], e[1], e[3], e[0], e[5]},
		Rf:   pairs(1, 0, 2, 3, 5, 3, 5, 3, 1, 4, 0, 6),
		Rmw:  pairs(0, 6, 1, 0, 1, 4, 2, 3, 5, 3, 5, 3),
		Addr: pairs(0, 6, 1, 0, 1, 4, 5, 3, 5, 3), Data: pairs(0, 6, 1, 4, 5, 3, 5, 3), Ctrl: pairs(1, 4, 5, 3, 5, 3),
		Co: [][]int{{6, 1, 5}, nil, {0, 0, 3}, {4}},
	}
	if h := mustCanon(t, g); !alike(h, want) {
		t.Errorf("P9.4: Canon is %+v; want %+v", h, want)
	}
}

// The number of no event, in each list at each end.
func TestP9_4NoEvent(t *testing.T) {
	hold := func(what string, g api.Graph, want api.Errno) {
		t.Helper()
		if h, e := dots.Canon(g); e != want || e != api.OK && !empty(h) {
			t.Errorf("P9.4: %s: Canon is %+v, %v; want %v", what, h, e, want)
		}
	}
	for n, want := range map[int]api.Errno{-1: api.EARG, 0: api.OK, 3: api.OK, 4: api.EGRAPH, 255: api.EGRAPH, 256: api.EARG} {
		for k := range 5 {
			for _, l := range [][]api.Pair{pairs(n, 0), pairs(0, n), pairs(0, 0, n, 3), pairs(0, 0, 3, n)} {
				g := example()
				*lists(&g)[k] = l
				hold(fmt.Sprint("list ", k, " of ", l), g, want)
				g.Events[2].Kind = 4
				hold(fmt.Sprint("list ", k, " of ", l, ", not plain"), g, api.EARG)
			}
		}
		for _, l := range [][][]int{{{n}}, {{0, 1, n}}, {nil, {0, n}}, {{n, 0}, nil, {1}}} {
			g := example()
			g.Co = l
			hold(fmt.Sprint("Co ", l), g, want)
			g.Cells = 257
			hold(fmt.Sprint("Co ", l, ", not plain"), g, api.EARG)
		}
	}
	hold("a pair without an event", api.Graph{Ctrl: pairs(0, 0)}, api.EGRAPH)
	hold("a number without an event", api.Graph{Co: [][]int{{0}}}, api.EGRAPH)
	hold("an empty list without an event", api.Graph{Co: [][]int{{}}}, api.OK)
	many := api.Graph{Events: largest().Events, Co: [][]int{{255}}, Data: pairs(255, 255)}
	hold("the last of 256 events", many, api.OK)
	many.Events = many.Events[:255]
	hold("the one behind the last", many, api.EGRAPH)
}

// order tells where an event of a graph stands in its Canon: behind all of lesser threads, and those of its own that are ahead of it.
func order(g api.Graph, at int) int {
	place := 0
	for i, e := range g.Events {
		if e.Thread < g.Events[at].Thread || e.Thread == g.Events[at].Thread && i < at {
			place++
		}
	}
	return place
}

// modelCanon puts everything where it belongs by counting.
func modelCanon(g api.Graph) api.Graph {
	out := api.Graph{Cells: g.Cells, Events: make([]api.Event, len(g.Events))}
	for i, e := range g.Events {
		out.Events[order(g, i)] = e
	}
	from := lists(&g)
	for k, to := range lists(&out) {
		count := map[api.Pair]int{}
		for _, p := range *from[k] {
			count[api.Pair{A: order(g, p.A), B: order(g, p.B)}]++
		}
		for a := range g.Events {
			for b := range g.Events {
				p := api.Pair{A: a, B: b}
				if k == 0 {
					p = api.Pair{A: b, B: a}
				}
				*to = append(*to, slices.Repeat([]api.Pair{p}, count[p])...)
			}
		}
	}
	for _, l := range g.Co {
		var moved []int
		for _, n := range l {
			moved = append(moved, order(g, n))
		}
		out.Co = append(out.Co, moved)
	}
	return out
}

func TestP9_4AsTheModel(t *testing.T) {
	for i := range 3000 {
		g := made(dice(uint64(i)), true)
		if h := mustCanon(t, g); !alike(h, modelCanon(g)) {
			t.Fatalf("P9.4: case %d: Canon is %+v; want %+v", i, h, modelCanon(g))
		}
	}
	for i := range 100 {
		roll := dice(uint64(i))
		g := api.Graph{Cells: roll(257)}
		for range 200 + roll(57) {
			g.Events = append(g.Events, madeEvent(roll))
		}
		n := len(g.Events)
		for _, l := range lists(&g) {
			for range 300 {
				*l = append(*l, api.Pair{A: roll(n), B: roll(n)})
			}
		}
		g.Co = [][]int{roll256(roll, n), roll256(roll, n)}
		if h := mustCanon(t, g); !alike(h, modelCanon(g)) {
			t.Fatalf("P9.4: large case %d: Canon is not the model's", i)
		}
	}
}

func roll256(roll func(n int) int, n int) []int {
	l := make([]int, 256)
	for i := range l {
		l[i] = roll(n)
	}
	return l
}

// shuffled is a graph with its threads' events in another order among one another, and its pairs in another one.
func shuffled(g api.Graph, roll func(n int) int) api.Graph {
	out := copyGraph(g)
	events := make([]int, len(g.Events)) // where they go
	order := make([]int, len(g.Events))
	for i := range order {
		order[i] = i
	}
	for i := len(order) - 1; i > 0; i-- {
		j := roll(i + 1)
		order[i], order[j] = order[j], order[i]
	}
	next := map[int]int{}
	for to, i := range order { // the place is one for the thread of the event i: its next event goes there
		thread := g.Events[i].Thread
		for g.Events[next[thread]].Thread != thread {
			next[thread]++
		}
		events[next[thread]] = to
		next[thread]++
	}
	for i, to := range events {
		out.Events[to] = g.Events[i]
	}
	for _, l := range lists(&out) {
		for i := range *l {
			(*l)[i] = api.Pair{A: events[(*l)[i].A], B: events[(*l)[i].B]}
		}
		for i := len(*l) - 1; i > 0; i-- {
			j := roll(i + 1)
			(*l)[i], (*l)[j] = (*l)[j], (*l)[i]
		}
	}
	for _, l := range out.Co {
		for i := range l {
			l[i] = events[l[i]]
		}
	}
	return out
}

// Canon of Canon is the same; graphs that differ in the order of their threads' events among one another and of their pairs have one Canon.
func TestP9_5OneCanon(t *testing.T) {
	changed := 0
	for i := range 2000 {
		roll := dice(uint64(i))
		g := made(roll, true)
		if i < 50 {
			g = ofWords()
		}
		want := mustCanon(t, g)
		if h := mustCanon(t, want); !alike(h, want) {
			t.Fatalf("P9.5: case %d: Canon of Canon is %+v; want %+v", i, h, want)
		}
		for range 4 {
			s := shuffled(g, roll)
			if !alike(s, g) {
				changed++
			}
			if h := mustCanon(t, s); !alike(h, want) {
				t.Fatalf("P9.5: case %d: Canon of %+v is %+v; want %+v", i, s, h, want)
			}
		}
	}
	if changed < 3000 {
		t.Errorf("not all is tried: %d", changed)
	}
}

// All ways to lay the events of three threads among one another.
func TestP9_5AllWays(t *testing.T) {
	g := ofWords()
	want := mustCanon(t, g)
	ways := 0
	var lay func(done []int)
	lay = func(done []int) {
		if len(done) == len(g.Events) {
			ways++
			if h := mustCanon(t, laid(g, done)); !alike(h, want) {
				t.Fatalf("P9.5: Canon of the events in the order %v is %+v", done, h)
			}
			return
		}
		for thread := -1; thread < 2; thread++ {
			for i, e := range g.Events {
				if e.Thread == thread && !slices.Contains(done, i) {
					lay(append(slices.Clone(done), i))
					break
				}
			}
		}
	}
	lay(nil)
	if ways != 3150 { // 10! / (2! 4! 4!)
		t.Errorf("not all is tried: %d", ways)
	}
}

// laid is a graph with its events in an order.
func laid(g api.Graph, order []int) api.Graph {
	out := copyGraph(g)
	for to, i := range order {
		out.Events[to] = g.Events[i]
	}
	for _, l := range lists(&out) {
		for i, p := range *l {
			(*l)[i] = api.Pair{A: slices.Index(order, p.A), B: slices.Index(order, p.B)}
		}
	}
	for _, l := range out.Co {
		for i, n := range l {
			l[i] = slices.Index(order, n)
		}
	}
	return out
}

// Graphs that differ in anything else have another Canon.
func TestP9_5OtherCanons(t *testing.T) {
	g := ofWords()
	want := mustCanon(t, g)
	other := func(what string, turn func(h *api.Graph)) {
		h := copyGraph(g)
		turn(&h)
		if k := mustCanon(t, h); alike(k, want) {
			t.Errorf("P9.5: Canon does not tell %s", what)
		}
	}
	other("Cells", func(h *api.Graph) { h.Cells++ })
	other("a value", func(h *api.Graph) { h.Events[4].Val++ })
	other("the order of a thread's events", func(h *api.Graph) { h.Events[2], h.Events[4] = h.Events[4], h.Events[2] })
	other("the order of a list of Co", func(h *api.Graph) { slices.Reverse(h.Co[0]) })
	other("the order of the lists of Co", func(h *api.Graph) { slices.Reverse(h.Co) })
	other("an empty list of Co", func(h *api.Graph) { h.Co = append(h.Co, nil) })
	for k := range 5 {
		other("a pair that is there twice", func(h *api.Graph) { l := lists(h)[k]; *l = append(*l, (*l)[0]) })
		other("a pair that is turned", func(h *api.Graph) { p := &(*lists(h)[k])[0]; p.A, p.B = p.B, p.A })
		other("a pair that is not there", func(h *api.Graph) { l := lists(h)[k]; *l = (*l)[1:] })
	}
}

// A graph that is well-formed but for the order of its threads' events and of its pairs has a Canon that is well-formed.
func TestP9_5WellFormed(t *testing.T) {
	source := example()
	source.Events = append(source.Events, read(0, 0, 7, api.SC), write(0, 0, 9, api.SC), read(1, 0, 9, api.Rlx))
	source.Rf = append(source.Rf, pairs(1, 4, 5, 6)...)
	source.Co[0] = append(source.Co[0], 5)
	source.Rmw = pairs(4, 5)
	for i, g := range []api.Graph{source, ofWords()} {
		if rule, at := graph.Check(g, i == 1); rule != 0 {
			t.Fatalf("the graph %d: rule %d at %d", i, rule, at)
		}
		for k := range 200 {
			h := mustCanon(t, shuffled(g, dice(uint64(k))))
			if rule, at := graph.Check(h, i == 1); rule != 0 {
				t.Fatalf("P9.4: the Canon of the graph %d breaks the rule %d at %d: %+v", i, rule, at, h)
			}
		}
	}
}
