package seq_test

import (
	"math"
	"slices"
	"testing"

	"sextant/api"
	"sextant/arm"
	"sextant/rc11"
	"sextant/seq"
)

func pairs(l ...int) []api.Pair {
	var out []api.Pair
	for i := 0; i+1 < len(l); i += 2 {
		out = append(out, api.Pair{A: l[i], B: l[i+1]})
	}
	return out
}

func read(thread, loc int, val uint64, mode int) api.Event {
	return api.Event{Thread: thread, Kind: api.Read, Loc: loc, Val: val, Mode: mode}
}

func write(thread, loc int, val uint64, mode int) api.Event {
	return api.Event{Thread: thread, Kind: api.Write, Loc: loc, Val: val, Mode: mode}
}

func fence(thread, mode int) api.Event {
	return api.Event{Thread: thread, Kind: api.Fence, Loc: -1, Mode: mode}
}

// The modes by one letter each: the source's, and the words'.
const (
	X = api.Rlx
	A = api.Acq
	R = api.Rel
	B = api.AcqRel
	S = api.SC

	P = api.Plain
	Q = api.Acquire
	C = api.AcquirePC
	L = api.Release
	D = api.FenceLd
	Y = api.FenceSy
)

// tongue is the modes that the events of a graph may have: those of the source, or of the words; full: the fence that is a barrier of TSO.
type tongue struct {
	name                  string
	weak, full            int
	reads, writes, fences []int
}

var (
	source  = tongue{"source", X, S, []int{X, A, S}, []int{X, R, S}, []int{A, R, B, S}}
	words   = tongue{"words", P, Y, []int{P, Q, C}, []int{P, L}, []int{D, Y}}
	tongues = []tongue{source, words}
)

func (u tongue) of(kind int) []int {
	return [][]int{api.Read: u.reads, api.Write: u.writes, api.Fence: u.fences}[kind]
}

// The events of the chapter's examples, by their letters; Rlx, and of the thread in which they are laid.
func rx(val uint64) api.Event { return read(0, 0, val, X) }
func ry(val uint64) api.Event { return read(0, 1, val, X) }
func rz(val uint64) api.Event { return read(0, 2, val, X) }
func wx(val uint64) api.Event { return write(0, 0, val, X) }
func wy(val uint64) api.Event { return write(0, 1, val, X) }
func wz(val uint64) api.Event { return write(0, 2, val, X) }
func ff(mode int) api.Event   { return fence(0, mode) }

// with is an event with another mode.
func with(e api.Event, mode int) api.Event {
	e.Mode = mode
	return e
}

// thread is one of a graph's.
func thread(l ...api.Event) []api.Event { return l }

// initial is a graph of the initial writes alone.
func initial(cells, mode int) api.Graph {
	g := api.Graph{Cells: cells}
	for c := range cells {
		g.Events = append(g.Events, write(-1, c, 0, mode))
		g.Co = append(g.Co, []int{c})
	}
	return g
}

// threads is a graph as the chapter's examples give it: of two cells, rf by values, co by the numbers.
func threads(l ...[]api.Event) api.Graph { return ofCells(2, l...) }

// ofCells is that of any number of cells.
func ofCells(cells int, l ...[]api.Event) api.Graph {
	g := initial(cells, X)
	for t, events := range l {
		for _, e := range events {
			e.Thread = t
			g.Events = append(g.Events, e)
		}
	}
	return byValues(g)
}

// byValues gives a graph its Rf by values (of two writes of one value the first) and its Co by the numbers.
func byValues(g api.Graph) api.Graph {
	g.Rf, g.Co = nil, make([][]int, g.Cells)
	for i, e := range g.Events {
		if e.Kind == api.Write {
			g.Co[e.Loc] = append(g.Co[e.Loc], i)
		}
		if e.Kind == api.Read {
			w := slices.IndexFunc(g.Events, func(f api.Event) bool { return f.Kind == api.Write && f.Loc == e.Loc && f.Val == e.Val })
			g.Rf = append(g.Rf, api.Pair{A: w, B: i})
		}
	}
	return g
}

// withRmw is a graph with these pairs.
func withRmw(g api.Graph, l ...int) api.Graph {
	g.Rmw = pairs(l...)
	return g
}

// withCo is a copy of a graph with another order of one cell's writes.
func withCo(g api.Graph, cell int, l ...int) api.Graph {
	g = copyGraph(g)
	g.Co[cell] = l
	return g
}

// withModes is a copy of a graph with these modes of its events behind the initial ones, and with the initial writes of that tongue.
func withModes(g api.Graph, u tongue, l ...int) api.Graph {
	g = copyGraph(g)
	for c := range g.Cells {
		g.Events[c].Mode = u.weak
	}
	for i, m := range l {
		g.Events[g.Cells+i].Mode = m
	}
	return g
}

// allModes are a graph with all modes of a tongue that its events may have, by turns.
func allModes(g api.Graph, u tongue, see func(g api.Graph)) {
	l := make([]int, len(g.Events)-g.Cells)
	var choose func(i int)
	choose = func(i int) {
		if i == len(l) {
			see(withModes(g, u, l...))
			return
		}
		for _, m := range u.of(g.Events[g.Cells+i].Kind) {
			l[i] = m
			choose(i + 1)
		}
	}
	choose(0)
}

func modesOf(g api.Graph) []int {
	var out []int
	for _, e := range g.Events {
		out = append(out, e.Mode)
	}
	return out
}

func copyGraph(g api.Graph) api.Graph {
	out := api.Graph{
		Cells: g.Cells, Events: append([]api.Event(nil), g.Events...),
		Rf: copyPairs(g.Rf), Rmw: copyPairs(g.Rmw), Addr: copyPairs(g.Addr), Data: copyPairs(g.Data), Ctrl: copyPairs(g.Ctrl),
	}
	for _, l := range g.Co {
		out.Co = append(out.Co, append([]int(nil), l...))
	}
	return out
}

func copyPairs(l []api.Pair) []api.Pair { return append([]api.Pair(nil), l...) }

// lists are a graph's lists of pairs.
func lists(g *api.Graph) []*[]api.Pair {
	return []*[]api.Pair{&g.Rf, &g.Rmw, &g.Addr, &g.Data, &g.Ctrl}
}

// model is one of the two calls that tell of a graph.
type model struct {
	name   string
	axioms int
	tell   func(g api.Graph) (axiom int, by []int, e api.Errno)
}

var (
	sc     = model{"Sc", 2, seq.Sc}
	tso    = model{"Tso", 3, seq.Tso}
	models = []model{sc, tso}
)

// hold holds what a model tells of a graph against what is wanted.
func (m model) hold(t *testing.T, what string, g api.Graph, axiom int, by ...int) {
	t.Helper()
	if a, l, e := m.tell(g); a != axiom || !slices.Equal(l, by) || e != api.OK {
		t.Errorf("P12.1: %s: %s: %d, by %v, %v; want %d, by %v", what, m.name, a, l, e, axiom, by)
	}
}

// of is the axiom that a graph breaks.
func (m model) of(t *testing.T, g api.Graph) int {
	t.Helper()
	a, _, e := m.tell(g)
	if e != api.OK {
		t.Fatalf("P12.1: %s answers %v: %+v", m.name, e, g)
	}
	return a
}

func mapped(t *testing.T, g api.Graph, lse bool) api.Graph {
	t.Helper()
	m, e := seq.Mapped(g, lse)
	if e != api.OK {
		t.Fatalf("P12.2: Mapped answers %v: %+v", e, g)
	}
	return m
}

// allows tells whether the model of a graph's own tongue allows it.
func allows(t *testing.T, g api.Graph, u tongue) bool {
	t.Helper()
	check := rc11.Check
	if u.name == words.name {
		check = arm.Check
	}
	a, _, e := check(g)
	if e != api.OK {
		t.Fatalf("not a graph of the %s: %+v", u.name, g)
	}
	return a == 0
}

// dice gives numbers from 0 to n - 1 that look like chance and are the same in each run.
func dice(seed uint64) func(n int) int {
	return func(n int) int {
		seed += 0x9e3779b97f4a7c15
		z := (seed ^ seed>>30) * 0xbf58476d1ce4e5b9
		z = (z ^ z>>27) * 0x94d049bb133111eb
		return int((z ^ z>>31) % uint64(n))
	}
}

// far are numbers at and beyond the edges.
var far = []int{math.MinInt, math.MinInt32, -257, -2, -1, 0, 1, 2, 3, 5, 11, 16, 17, 63, 64, 255, 256, 257, 4095, 4096, 4097, 1 << 31, 1 << 32, math.MaxInt - 1, math.MaxInt}
