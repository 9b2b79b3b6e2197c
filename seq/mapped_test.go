package seq_test

import (
	"cmp"
	"fmt"
	"reflect"
	"slices"
	"testing"

	"sextant/api"
	"sextant/graph"
	"sextant/seq"
)

var bothMappings = []bool{false, true}

// holdNone: Mapped refuses a graph, and answers nothing beside.
func holdNone(t *testing.T, what string, g api.Graph, lse bool) {
	t.Helper()
	m, e := seq.Mapped(g, lse)
	if e != api.EGRAPH || m.Cells != 0 || len(m.Events)+len(m.Co) != 0 || slices.ContainsFunc(lists(&m), func(l *[]api.Pair) bool { return len(*l) != 0 }) {
		t.Errorf("P12.2: %s: lse %v: %v, %+v", what, lse, e, m)
	}
}

// holdRest: but for modes and Ctrl a mapped graph is as it was, and it is well-formed.
func holdRest(t *testing.T, what string, g, m api.Graph) {
	t.Helper()
	same := m.Cells == g.Cells && len(m.Events) == len(g.Events) && slices.Equal(m.Rf, g.Rf) && slices.Equal(m.Rmw, g.Rmw) &&
		slices.EqualFunc(m.Co, g.Co, slices.Equal) && len(m.Addr)+len(m.Data) == 0
	for i := range g.Events {
		if same {
			same = with(m.Events[i], 0) == with(g.Events[i], 0)
		}
	}
	if !same {
		t.Errorf("P12.2: %s: %+v is mapped to %+v", what, g, m)
	}
	if rule, at := graph.Check(m, true); rule != 0 {
		t.Errorf("P12.2: %s: the mapped graph breaks the rule %d at %d: %+v", what, rule, at, m)
	}
}

// inWords is the mapped graph by the chapter's words, event by event and pair by pair.
func inWords(g api.Graph, lse bool) api.Graph {
	out := copyGraph(g)
	for i, e := range g.Events {
		ofPair := slices.ContainsFunc(g.Rmw, func(p api.Pair) bool { return p.A == i })
		switch {
		case e.Kind == api.Fence && e.Mode == A:
			out.Events[i].Mode = D
		case e.Kind == api.Fence:
			out.Events[i].Mode = Y
		case e.Mode == X:
			out.Events[i].Mode = P
		case e.Kind == api.Write:
			out.Events[i].Mode = L
		case e.Mode == A && lse && !ofPair:
			out.Events[i].Mode = C
		default:
			out.Events[i].Mode = Q
		}
		for b := i + 1; b < len(g.Events) && e.Kind == api.Read && e.Mode == X; b++ {
			if g.Events[b].Thread == e.Thread {
				out.Ctrl = append(out.Ctrl, api.Pair{A: i, B: b})
			}
		}
	}
	return out
}

func TestP12_2MadeGraphs(t *testing.T) {
	got := map[string]int{}
	for i, g := range many(4000, source) {
		for _, lse := range bothMappings {
			m, want := mapped(t, g, lse), inWords(g, lse)
			if !reflect.DeepEqual(copyGraph(m), want) {
				t.Fatalf("P12.2: case %d, lse %v: %+v is mapped to %+v; want %+v", i, lse, g, m, want)
			}
			holdRest(t, fmt.Sprint("case ", i), g, m)
			for k, e := range m.Events {
				got[fmt.Sprint(g.Events[k].Kind, g.Events[k].Mode, " to ", e.Mode, lse)]++
			}
			got[fmt.Sprint("ctrl ", min(len(m.Ctrl), 5))]++
		}
	}
	for _, lse := range []string{" true", " false"} {
		for _, what := range []string{"1 1 to 11", "1 2 to 12", "1 5 to 12", "2 1 to 11", "2 3 to 13", "2 5 to 13", "3 2 to 14", "3 3 to 15", "3 4 to 15", "3 5 to 15"} {
			if got[what+lse] < 50 {
				t.Errorf("not all is tried: %s%s: %d", what, lse, got[what+lse])
			}
		}
	}
	if got["1 2 to 16 true"] < 50 || got["1 2 to 16 false"] != 0 {
		t.Errorf("not all is tried: %v", got)
	}
	for n := range 6 {
		if got[fmt.Sprint("ctrl ", n)] < 20 {
			t.Errorf("not all is tried: %d pairs of Ctrl: %d", n, got[fmt.Sprint("ctrl ", n)])
		}
	}
}

// Each mode of each kind, by hand, of a pair and of none.
func TestP12_2EachMode(t *testing.T) {
	for _, c := range []struct {
		e              api.Event
		without, byLse int
	}{
		{rx(0), P, P}, {with(rx(0), A), Q, C}, {with(rx(0), S), Q, Q},
		{wx(1), P, P}, {with(wx(1), R), L, L}, {with(wx(1), S), L, L},
		{ff(A), D, D}, {ff(R), Y, Y}, {ff(B), Y, Y}, {ff(S), Y, Y},
	} {
		for _, lse := range bothMappings {
			m := mapped(t, threads(thread(c.e)), lse)
			want := []int{P, P, c.without}
			if lse {
				want[2] = c.byLse
			}
			if !slices.Equal(modesOf(m), want) || len(m.Ctrl) != 0 {
				t.Errorf("P12.2: %+v, lse %v: modes %v, Ctrl %v; want %v", c.e, lse, modesOf(m), m.Ctrl, want)
			}
		}
	}
	for _, c := range []struct{ read, write, inWords1, inWords2 int }{ // an RMW of each mode
		{X, X, P, P}, {A, X, Q, P}, {X, R, P, L}, {A, R, Q, L}, {S, S, Q, L},
	} {
		for _, lse := range bothMappings {
			g := withRmw(threads(thread(with(rx(0), c.read), with(wx(1), c.write), with(ry(0), A)), thread(with(ry(0), A), with(wy(0), X))), 2, 3)
			m := mapped(t, g, lse)
			alone, ctrl := Q, pairs(2, 3, 2, 4)
			if lse {
				alone = C
			}
			if c.read != X {
				ctrl = nil
			}
			if want := []int{P, P, c.inWords1, c.inWords2, alone, alone, P}; !slices.Equal(modesOf(m), want) || !slices.Equal(m.Ctrl, ctrl) {
				t.Errorf("P12.2: a pair of %d and %d, lse %v: modes %v, Ctrl %v; want %v, %v", c.read, c.write, lse, modesOf(m), m.Ctrl, want, ctrl)
			}
			// A read and a write that might be a pair, but are none: the read of Acq is LDAPR with lse.
			if g.Rmw = nil; c.read == A {
				if m := mapped(t, g, lse); m.Events[2].Mode != alone {
					t.Errorf("P12.2: a read of Acq ahead of a write of its cell, lse %v: the mode %d", lse, m.Events[2].Mode)
				}
			}
		}
	}
}

// Ctrl: all events behind a relaxed read in its own thread, fences too, rising, however the threads are listed; none of stronger reads, of writes, of fences, and none back in po.
func TestP12_2Ctrl(t *testing.T) {
	g := initial(1, X)
	g.Events = append(g.Events,
		read(5, 0, 0, X),  // 1
		read(2, 0, 0, X),  // 2
		write(5, 0, 0, X), // 3
		fence(2, A),       // 4
		read(2, 0, 0, A),  // 5
		read(5, 0, 0, X),  // 6
		write(2, 0, 0, R), // 7
		fence(5, S),       // 8
		read(2, 0, 0, X),  // 9
		read(63, 0, 0, X), // 10
		read(0, 0, 0, S),  // 11
		write(0, 0, 0, X), // 12
		fence(1, B),       // 13
		read(1, 0, 0, X))  // 14
	g = byValues(g)
	want := pairs(1, 3, 1, 6, 1, 8, 2, 4, 2, 5, 2, 7, 2, 9, 6, 8)
	for _, lse := range bothMappings {
		m := mapped(t, g, lse)
		if !slices.Equal(m.Ctrl, want) {
			t.Errorf("P12.2: Ctrl %v; want %v", m.Ctrl, want)
		}
		holdRest(t, "threads listed with one another", g, m)
	}
}

// A graph that has as many events as there may be, each of them a relaxed read.
func TestP12_2MaxEvents(t *testing.T) {
	g := initial(1, X)
	for range api.MaxEvents - 1 {
		g.Events = append(g.Events, read(63, 0, 0, X))
	}
	g = byValues(g)
	for _, lse := range bothMappings {
		m := mapped(t, g, lse)
		holdRest(t, "MaxEvents reads", g, m)
		rising := slices.IsSortedFunc(m.Ctrl, func(p, q api.Pair) int { return cmp.Or(p.A-q.A, p.B-q.B) })
		if n := (api.MaxEvents - 1) * (api.MaxEvents - 2) / 2; len(m.Ctrl) != n || !rising {
			t.Errorf("P12.2: MaxEvents reads: %d pairs of Ctrl; want %d", len(m.Ctrl), n)
		}
		holdRest(t, "a wheel", wheel(source, B), mapped(t, wheel(source, B), lse))
		g := copyGraph(g)
		g.Events = append(g.Events, fence(0, S))
		holdNone(t, "one more than MaxEvents", g, lse)
	}
}

// The initial writes alone; no event at all.
func TestP12_2Initial(t *testing.T) {
	for _, lse := range bothMappings {
		for _, cells := range []int{0, 1, 2, api.MaxEvents} {
			g := initial(cells, X)
			if m := mapped(t, g, lse); !reflect.DeepEqual(copyGraph(m), initial(cells, P)) {
				t.Errorf("P12.2: %d cells: %+v", cells, m)
			}
		}
		if m := mapped(t, api.Graph{}, lse); !reflect.DeepEqual(copyGraph(m), api.Graph{}) {
			t.Errorf("P12.2: nothing: %+v", m)
		}
	}
}

// What is well-formed as the words' alone is refused; so is what Mapped answered, but for the graph of nothing.
func TestP12_2WordsRefused(t *testing.T) {
	tried := 0
	for i, g := range many(500, words) {
		if rule, _ := graph.Check(g, true); rule != 0 {
			t.Fatalf("case %d is no graph of words", i)
		}
		for _, lse := range bothMappings {
			holdNone(t, fmt.Sprint("words ", i), g, lse)
		}
		tried++
	}
	for i, g := range many(500, source) {
		for _, lse := range bothMappings {
			holdNone(t, fmt.Sprint("mapped twice ", i), mapped(t, g, lse), !lse)
		}
		tried++
	}
	for _, lse := range bothMappings {
		holdNone(t, "initial writes of words", initial(1, P), lse)
		mixed := buffering()
		mixed.Events[2].Mode = P
		holdNone(t, "a mode of words", mixed, lse)
		for k := range 3 {
			g := loads()
			*lists(&g)[2+k] = pairs(2, 3)
			holdNone(t, "a dependency in the source", g, lse)
		}
	}
	if tried != 1000 {
		t.Errorf("not all is tried: %d", tried)
	}
}

// The chapter's rows with every mode of the source: what Mapped makes of them.
func TestP12_2ExamplesWithAllModes(t *testing.T) {
	for _, g := range []api.Graph{buffering(), buffering(ff(S)), loads(), onePair(), torn()} {
		allModes(g, source, func(g api.Graph) {
			for _, lse := range bothMappings {
				m := mapped(t, g, lse)
				if want := inWords(g, lse); !reflect.DeepEqual(copyGraph(m), want) {
					t.Errorf("P12.2: lse %v: %+v is mapped to %+v; want %+v", lse, g, m, want)
				}
			}
		})
	}
	// Load buffering is forbidden by ARMv8 with every mode, by either mapping: a relaxed read by its branch, others by themselves.
	allModes(loads(), source, func(g api.Graph) {
		for _, lse := range bothMappings {
			if allows(t, mapped(t, g, lse), words) {
				t.Errorf("P12.2: load buffering, mapped: ARMv8 allows it: %v", modesOf(g))
			}
		}
	})
}
