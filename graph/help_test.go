package graph_test

import (
	"math"
	"testing"

	"sextant/api"
	"sextant/graph"
	"sextant/rel"
)

func pairs(l ...int) []api.Pair {
	var out []api.Pair
	for i := 0; i+1 < len(l); i += 2 {
		out = append(out, api.Pair{A: l[i], B: l[i+1]})
	}
	return out
}

func read(thread, loc int, val uint64, mode int) api.Event {
	return api.Event{Thread: thread, Kind: api.Read, Loc: loc, Val: val, Mode: mode}
}

func write(thread, loc int, val uint64, mode int) api.Event {
	return api.Event{Thread: thread, Kind: api.Write, Loc: loc, Val: val, Mode: mode}
}

func fence(thread, mode int) api.Event {
	return api.Event{Thread: thread, Kind: api.Fence, Loc: -1, Mode: mode}
}

// plain is the weakest mode of an access.
func plain(words bool) int {
	if words {
		return api.Plain
	}
	return api.Rlx
}

// initial is a graph of the initial writes alone.
func initial(cells int, words bool) api.Graph {
	g := api.Graph{Cells: cells}
	for c := range cells {
		g.Events = append(g.Events, write(-1, c, 0, plain(words)))
		g.Co = append(g.Co, []int{c})
	}
	return g
}

// example is the chapter's g.
func example() api.Graph {
	return api.Graph{
		Cells: 1, Rf: pairs(1, 2), Co: [][]int{{0, 1}},
		Events: []api.Event{write(-1, 0, 0, api.Rlx), write(0, 0, 7, api.Rlx), read(1, 0, 7, api.Acq), fence(1, api.SC)},
	}
}

// withModes is a copy of a graph with these modes.
func withModes(g api.Graph, modes ...int) api.Graph {
	out := copyGraph(g)
	for i, m := range modes {
		out.Events[i].Mode = m
	}
	return out
}

// several is a graph of three cells and four threads, whose events stand mixed, with pairs of Rmw, and reads of their own and of initial writes. Of the words it has Addr, Data and Ctrl too.
func several(words bool) api.Graph {
	g := api.Graph{
		Cells: 3,
		Events: []api.Event{
			write(-1, 0, 0, 1), write(-1, 1, 0, 1), write(-1, 2, 0, 1),
			read(0, 0, 5, 5), write(5, 0, 5, 3), write(0, 0, 6, 5), fence(0, 4), read(63, 1, 0, 2), // 3 to 7
			read(5, 2, 0, 1), write(63, 1, 9, 3), write(5, 2, 0, 1), write(0, 2, 8, 1), read(63, 2, 0, 1), // 8 to 12
			fence(63, 2), write(63, 0, 6, 1), read(2, 0, 6, 5), fence(0, 5), read(0, 1, 9, 1), // 13 to 17
		},
		Rf:  pairs(4, 3, 1, 7, 2, 8, 10, 12, 14, 15, 9, 17),
		Co:  [][]int{{0, 14, 4, 5}, {1, 9}, {2, 10, 11}},
		Rmw: pairs(3, 5, 7, 9, 8, 10),
	}
	if words {
		modes := []int{1: 11, 2: 12, 3: 13, 4: 15, 5: 13}
		for i, e := range g.Events {
			g.Events[i].Mode = modes[e.Mode]
			if e.Kind == api.Read && e.Mode == api.SC {
				g.Events[i].Mode = api.AcquirePC
			}
			if e.Kind == api.Fence {
				g.Events[i].Mode = api.FenceLd + i%2
			}
		}
		g.Addr = pairs(3, 11, 3, 17, 7, 9, 7, 12, 12, 14)
		g.Data = pairs(3, 5, 3, 11, 8, 10)
		g.Ctrl = pairs(3, 5, 3, 6, 3, 17, 7, 12, 7, 13, 8, 10, 12, 13)
	}
	return g
}

// largest is a graph at all limits that can be met at once: MaxEvents events of MaxThreads threads.
func largest(words bool) api.Graph {
	g := initial(16, words)
	for i := 16; i < api.MaxEvents; i++ {
		c, t := i%16, (i-16)%api.MaxThreads
		if i < 144 {
			g.Events = append(g.Events, write(t, c, uint64(i), plain(words)))
			g.Co[c] = append([]int{c, i}, g.Co[c][1:]...)
		} else {
			g.Events = append(g.Events, read(t, c, uint64(i-128), plain(words)))
			g.Rf = append(g.Rf, api.Pair{A: i - 128, B: i})
		}
	}
	return g
}

// right are well-formed graphs of one kind, by hand and made.
func right(words bool) []api.Graph {
	ex := example()
	if words {
		ex = withModes(ex, api.Plain, api.Plain, api.Acquire, api.FenceSy)
	}
	out := []api.Graph{{}, initial(1, words), initial(5, words), initial(256, words), ex, several(words), largest(words)}
	for i := range 300 {
		out = append(out, made(dice(uint64(i)), words))
	}
	return out
}

func copyGraph(g api.Graph) api.Graph {
	out := api.Graph{
		Cells: g.Cells, Events: append([]api.Event(nil), g.Events...),
		Rf: copyPairs(g.Rf), Rmw: copyPairs(g.Rmw), Addr: copyPairs(g.Addr), Data: copyPairs(g.Data), Ctrl: copyPairs(g.Ctrl),
	}
	for _, l := range g.Co {
		out.Co = append(out.Co, append([]int(nil), l...))
	}
	return out
}

func copyPairs(l []api.Pair) []api.Pair { return append([]api.Pair(nil), l...) }

// lists are a graph's lists of pairs.
func lists(g *api.Graph) []*[]api.Pair {
	return []*[]api.Pair{&g.Rf, &g.Rmw, &g.Addr, &g.Data, &g.Ctrl}
}

// holdCheck holds Check of a graph, of the words or of the source, against what is wanted.
func holdCheck(t *testing.T, what string, g api.Graph, words bool, rule, at int) {
	t.Helper()
	if r, a := graph.Check(g, words); r != rule || a != at {
		t.Errorf("P8.1: %s, words %v: %d, %d; want %d, %d", what, words, r, a, rule, at)
	}
}

// agrees asks every pair, those just outside the points too.
func agrees(t *testing.T, what string, r *rel.Rel, n int, want func(a, b int) bool) {
	t.Helper()
	if r == nil || r.Len() != n {
		t.Fatalf("%s: no relation of %d points: %v", what, n, r)
	}
	for a := -1; a <= n; a++ {
		for b := -1; b <= n; b++ {
			if in := min(a, b) >= 0 && max(a, b) < n && want(a, b); r.Has(a, b) != in {
				t.Fatalf("%s: Has(%d, %d) is %v", what, a, b, !in)
			}
		}
	}
}

// dice gives numbers from 0 to n - 1 that look like chance and are the same in each run.
func dice(seed uint64) func(n int) int {
	return func(n int) int {
		seed += 0x9e3779b97f4a7c15
		z := (seed ^ seed>>30) * 0xbf58476d1ce4e5b9
		z = (z ^ z>>27) * 0x94d049bb133111eb
		return int((z ^ z>>31) % uint64(n))
	}
}

// far are numbers at and beyond the edges.
var far = []int{math.MinInt, math.MinInt32, -257, -2, -1, 0, 1, 2, 3, 5, 11, 16, 17, 63, 64, 255, 256, 257, 4095, 4096, 4097, 1 << 31, 1 << 32, math.MaxInt - 1, math.MaxInt}
