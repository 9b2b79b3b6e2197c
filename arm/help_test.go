package arm_test

import (
	"math"
	"slices"
	"testing"

	"sextant/api"
	"sextant/arm"
	"sextant/rel"
)

func pairs(l ...int) []api.Pair {
	var out []api.Pair
	for i := 0; i+1 < len(l); i += 2 {
		out = append(out, api.Pair{A: l[i], B: l[i+1]})
	}
	return out
}

func read(thread, loc int, val uint64, mode int) api.Event {
	return api.Event{Thread: thread, Kind: api.Read, Loc: loc, Val: val, Mode: mode}
}

func write(thread, loc int, val uint64, mode int) api.Event {
	return api.Event{Thread: thread, Kind: api.Write, Loc: loc, Val: val, Mode: mode}
}

func fence(thread, mode int) api.Event {
	return api.Event{Thread: thread, Kind: api.Fence, Loc: -1, Mode: mode}
}

// in gives events a thread.
func in(thread int, l ...api.Event) []api.Event {
	for i := range l {
		l[i].Thread = thread
	}
	return l
}

// The events of the chapter's examples, by their letters: a thread is given by in.
func rx(val uint64, mode int) api.Event { return read(0, 0, val, mode) }
func ry(val uint64, mode int) api.Event { return read(0, 1, val, mode) }
func wx(val uint64, mode int) api.Event { return write(0, 0, val, mode) }
func wy(val uint64, mode int) api.Event { return write(0, 1, val, mode) }
func ff(mode int) api.Event             { return fence(0, mode) }

// The modes by one letter each.
const (
	P = api.Plain
	A = api.Acquire
	Q = api.AcquirePC
	L = api.Release
	D = api.FenceLd
	Y = api.FenceSy
)

var (
	readModes  = []int{P, A, Q}
	writeModes = []int{P, L}
	fenceModes = []int{D, Y}
)

// initial is a graph of the initial writes alone.
func initial(cells, mode int) api.Graph {
	g := api.Graph{Cells: cells}
	for c := range cells {
		g.Events = append(g.Events, write(-1, c, 0, mode))
		g.Co = append(g.Co, []int{c})
	}
	return g
}

// threads is a graph as the chapter's examples give it: of two cells, rf by values, co by the numbers.
func threads(l ...[]api.Event) api.Graph { return ofCells(2, l...) }

// ofCells is that of any number of cells.
func ofCells(cells int, l ...[]api.Event) api.Graph {
	g := initial(cells, P)
	for t, events := range l {
		g.Events = append(g.Events, in(t, slices.Clone(events)...)...)
	}
	return byValues(g)
}

// byValues gives a graph its Rf by values (of two writes of one value the first) and its Co by the numbers.
func byValues(g api.Graph) api.Graph {
	g.Rf, g.Co = nil, make([][]int, g.Cells)
	for i, e := range g.Events {
		if e.Kind == api.Write {
			g.Co[e.Loc] = append(g.Co[e.Loc], i)
		}
		if e.Kind == api.Read {
			w := slices.IndexFunc(g.Events, func(f api.Event) bool { return f.Kind == api.Write && f.Loc == e.Loc && f.Val == e.Val })
			g.Rf = append(g.Rf, api.Pair{A: w, B: i})
		}
	}
	return g
}

// seq is a thread.
func seq(l ...api.Event) []api.Event { return l }

// withRmw is a graph with these pairs.
func withRmw(g api.Graph, l ...int) api.Graph {
	g.Rmw = pairs(l...)
	return g
}

// withAddr, withData and withCtrl are a graph with these dependencies.
func withAddr(g api.Graph, l ...int) api.Graph {
	g.Addr = pairs(l...)
	return g
}

func withData(g api.Graph, l ...int) api.Graph {
	g.Data = pairs(l...)
	return g
}

func withCtrl(g api.Graph, l ...int) api.Graph {
	g.Ctrl = pairs(l...)
	return g
}

// withCo is a graph with another order of one cell's writes.
func withCo(g api.Graph, cell int, l ...int) api.Graph {
	g.Co[cell] = l
	return g
}

func copyGraph(g api.Graph) api.Graph {
	out := api.Graph{
		Cells: g.Cells, Events: append([]api.Event(nil), g.Events...),
		Rf: copyPairs(g.Rf), Rmw: copyPairs(g.Rmw), Addr: copyPairs(g.Addr), Data: copyPairs(g.Data), Ctrl: copyPairs(g.Ctrl),
	}
	for _, l := range g.Co {
		out.Co = append(out.Co, append([]int(nil), l...))
	}
	return out
}

func copyPairs(l []api.Pair) []api.Pair { return append([]api.Pair(nil), l...) }

// lists are a graph's lists of pairs.
func lists(g *api.Graph) []*[]api.Pair {
	return []*[]api.Pair{&g.Rf, &g.Rmw, &g.Addr, &g.Data, &g.Ctrl}
}

// holdCheck holds Check of a graph against what is wanted.
func holdCheck(t *testing.T, what string, g api.Graph, axiom int, by ...int) {
	t.Helper()
	if a, l, e := arm.Check(g); a != axiom || !slices.Equal(l, by) || e != api.OK {
		t.Errorf("P11.2: %s: %d, by %v, %v; want %d, by %v", what, a, l, e, axiom, by)
	}
}

// holdPairs holds a relation against all of its pairs.
func holdPairs(t *testing.T, what string, r *rel.Rel, l ...int) {
	t.Helper()
	if got := r.Pairs(); !slices.Equal(got, pairs(l...)) {
		t.Errorf("P11.1: %s: %v; want %v", what, got, pairs(l...))
	}
}

func derived(t *testing.T, g api.Graph) arm.Facts {
	t.Helper()
	f, e := arm.Derive(g)
	if e != api.OK {
		t.Fatalf("P11.1: Derive answers %v: %+v", e, g)
	}
	return f
}

func axiomOf(t *testing.T, g api.Graph) int {
	t.Helper()
	a, _, e := arm.Check(g)
	if e != api.OK {
		t.Fatalf("P11.2: Check answers %v: %+v", e, g)
	}
	return a
}

func relations(f arm.Facts) []*rel.Rel {
	return []*rel.Rel{f.Obs, f.Dob, f.Aob, f.Bob, f.Ob}
}

var relationNames = []string{"Obs", "Dob", "Aob", "Bob", "Ob"}

// dice gives numbers from 0 to n - 1 that look like chance and are the same in each run.
func dice(seed uint64) func(n int) int {
	return func(n int) int {
		seed += 0x9e3779b97f4a7c15
		z := (seed ^ seed>>30) * 0xbf58476d1ce4e5b9
		z = (z ^ z>>27) * 0x94d049bb133111eb
		return int((z ^ z>>31) % uint64(n))
	}
}

// far are numbers at and beyond the edges.
var far = []int{math.MinInt, math.MinInt32, -257, -2, -1, 0, 1, 2, 3, 5, 11, 16, 17, 63, 64, 255, 256, 257, 4095, 4096, 4097, 1 << 31, 1 << 32, math.MaxInt - 1, math.MaxInt}
