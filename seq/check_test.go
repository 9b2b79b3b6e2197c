package seq_test

import (
	"fmt"
	"slices"
	"testing"

	"sextant/api"
	"sextant/arm"
	"sextant/seq"
)

// buffering is Wx1, Ry0 || Wy1, Rx0, with something between the two of each thread.
func buffering(between ...api.Event) api.Graph {
	return threads(slices.Concat(thread(wx(1)), between, thread(ry(0))), slices.Concat(thread(wy(1)), between, thread(rx(0))))
}

// loads is Rx1, Wy1 || Ry1, Wx1.
func loads() api.Graph { return threads(thread(rx(1), wy(1)), thread(ry(1), wx(1))) }

// onePair is Rx0, Wx1 a pair, Ry0 || Wy1, Rx0.
func onePair() api.Graph {
	return withRmw(threads(thread(rx(0), wx(1), ry(0)), thread(wy(1), rx(0))), 2, 3)
}

// twoPairs is Rx0, Wx1 a pair, Ry0 || Ry0, Wy1 a pair, Rx0.
func twoPairs() api.Graph {
	return withRmw(threads(thread(rx(0), wx(1), ry(0)), thread(ry(0), wy(1), rx(0))), 2, 3, 5, 6)
}

// torn is Rx0, Wx1 a pair || Wx2, which comes between.
func torn() api.Graph {
	return withCo(withRmw(threads(thread(rx(0), wx(1)), thread(wx(2))), 2, 3), 0, 0, 4, 3)
}

// Every row of the chapter's examples, each column of it.
func TestP12_1Examples(t *testing.T) {
	sc.hold(t, "store buffering", buffering(), seq.Order, 2, 3, 4, 5)
	tso.hold(t, "store buffering", buffering(), 0)
	for _, f := range []int{S, B} {
		sc.hold(t, fmt.Sprint("store buffering, fences ", f), buffering(ff(f)), seq.Order, 2, 4, 5, 7)
	}
	tso.hold(t, "store buffering, fences SC", buffering(ff(S)), seq.Global, 2, 4, 5, 7)
	tso.hold(t, "store buffering, fences AcqRel", buffering(ff(B)), 0)
	sc.hold(t, "load buffering", loads(), seq.Order, 2, 3, 4, 5)
	tso.hold(t, "load buffering", loads(), seq.Global, 2, 3, 4, 5)
	sc.hold(t, "a pair in one thread", onePair(), seq.Order, 3, 4, 5, 6)
	tso.hold(t, "a pair in one thread", onePair(), 0)
	sc.hold(t, "a torn pair", torn(), seq.Atomicity, 2, 3)
	tso.hold(t, "a torn pair", torn(), seq.Atomicity, 2, 3)
	sc.hold(t, "nothing", api.Graph{}, 0)
	tso.hold(t, "nothing", api.Graph{}, 0)
}

func TestP12_2Examples(t *testing.T) {
	for _, c := range []struct {
		what  string
		g     api.Graph
		modes []int
		ctrl  []api.Pair
	}{
		{"store buffering", buffering(), []int{P, P, P, P, P, P}, nil},
		{"store buffering, fences SC", buffering(ff(S)), []int{P, P, P, Y, P, P, Y, P}, nil},
		{"store buffering, fences AcqRel", buffering(ff(B)), []int{P, P, P, Y, P, P, Y, P}, nil},
		{"load buffering", loads(), []int{P, P, P, P, P, P}, pairs(2, 3, 4, 5)},
		{"a pair in one thread", onePair(), []int{P, P, P, P, P, P, P}, pairs(2, 3, 2, 4)},
		{"a torn pair", torn(), []int{P, P, P, P, P}, pairs(2, 3)},
		{"nothing", api.Graph{}, nil, nil},
	} {
		for _, lse := range []bool{false, true} {
			m := mapped(t, c.g, lse)
			if !slices.Equal(modesOf(m), c.modes) || !slices.Equal(m.Ctrl, c.ctrl) {
				t.Errorf("P12.2: %s: modes %v, Ctrl %v; want %v, %v", c.what, modesOf(m), m.Ctrl, c.modes, c.ctrl)
			}
			holdRest(t, c.what, c.g, m)
		}
	}
	if a, by, e := arm.Check(mapped(t, loads(), false)); a != arm.External || !slices.Equal(by, []int{2, 3, 4, 5}) || e != api.OK {
		t.Errorf("P12.2: load buffering, mapped: %d, by %v, %v", a, by, e)
	}
}

// Those rows with every mode that each event may have, of either tongue: accesses' modes don't matter, SC no more than others.
func TestP12_1ExamplesWithAllModes(t *testing.T) {
	tried := 0
	for _, u := range tongues {
		for _, c := range []struct {
			what      string
			g         api.Graph
			in1       int
			by1       []int
			in2, full int // full: with barriers in both threads
			by2       []int
		}{
			{"store buffering", buffering(), 1, []int{2, 3, 4, 5}, 0, 0, nil},
			{"store buffering, fences", buffering(ff(S)), 1, []int{2, 4, 5, 7}, 0, 3, []int{2, 4, 5, 7}},
			{"load buffering", loads(), 1, []int{2, 3, 4, 5}, 3, 3, []int{2, 3, 4, 5}},
			{"a pair in one thread", onePair(), 1, []int{3, 4, 5, 6}, 0, 0, nil},
			{"a pair in each", twoPairs(), 1, []int{3, 4, 6, 7}, 3, 3, []int{3, 4, 6, 7}},
			{"a torn pair", torn(), 2, []int{2, 3}, 2, 2, []int{2, 3}},
		} {
			allModes(c.g, u, func(g api.Graph) {
				what := fmt.Sprint(c.what, ", modes ", modesOf(g))
				sc.hold(t, what, g, c.in1, c.by1...)
				full := 0
				for _, e := range g.Events {
					if e.Kind == api.Fence && e.Mode == u.full {
						full++
					}
				}
				if full == 2 {
					tso.hold(t, what, g, c.full, c.by2...)
				} else if c.in2 == 0 {
					tso.hold(t, what, g, 0)
				} else {
					tso.hold(t, what, g, c.in2, c.by2...)
				}
				tried++
			})
		}
	}
	if tried < 2000 {
		t.Errorf("not all is tried: %d", tried)
	}
}

// No event; no event but the initial ones.
func TestP12_1Initial(t *testing.T) {
	for _, m := range models {
		m.hold(t, "nothing", api.Graph{Events: []api.Event{}, Co: [][]int{}, Rf: []api.Pair{}}, 0)
		for _, u := range tongues {
			for _, cells := range []int{1, 3, api.MaxEvents} {
				m.hold(t, fmt.Sprint(u.name, ", cells ", cells), initial(cells, u.weak), 0)
			}
		}
		m.hold(t, "fences alone, without cells", ofCells(0, thread(ff(S), ff(A), ff(S)), thread(ff(S))), 0)
	}
}

// Each axiom by itself, two at once: the first one is told.
func TestP12_1OneAndTwo(t *testing.T) {
	old := threads(thread(wx(1), rx(0))) // a thread that does not see its own write
	older := threads(thread(wx(1)), thread(rx(1), rx(0)))
	tornOld := withCo(withRmw(threads(thread(rx(0), wx(1)), thread(wx(2), rx(0))), 2, 3), 0, 0, 4, 3)
	pulled := func(l ...[]api.Event) api.Graph { // a torn pair of the cell z, ahead of other threads
		g := ofCells(3, append([][]api.Event{thread(rz(0), wz(1)), thread(wz(2))}, l...)...)
		return withCo(withRmw(g, 3, 4), 2, 2, 5, 4)
	}
	for _, c := range []struct {
		what   string
		m      model
		g      api.Graph
		broken string
		by     []int
	}{
		{"Order alone", sc, buffering(), " 1", []int{2, 3, 4, 5}},
		{"Atomicity alone", sc, torn(), " 2", []int{2, 3}},
		{"Order and Atomicity", sc, pulled(thread(wx(1), ry(0)), thread(wy(1), rx(0))), " 1 2", []int{6, 7, 8, 9}},
		{"Order and Atomicity of one cell", sc, tornOld, " 1 2", []int{4, 5}},
		{"Order alone", tso, old, " 1", []int{2, 3}},
		{"Atomicity alone", tso, torn(), " 2", []int{2, 3}},
		{"Global alone", tso, loads(), " 3", []int{2, 3, 4, 5}},
		{"Order and Atomicity", tso, tornOld, " 1 2", []int{4, 5}},
		{"Order and Global", tso, older, " 1 3", []int{2, 3, 4}},
		{"Global of lesser numbers, Order behind it", tso, ofCells(3, thread(rx(1), wy(1)), thread(ry(1), wx(1)), thread(wz(1), rz(0))), " 1 3", []int{7, 8}},
		{"Atomicity and Global", tso, pulled(thread(rx(1), wy(1)), thread(ry(1), wx(1))), " 2 3", []int{3, 4}},
		{"Global of lesser numbers, Atomicity behind it", tso, withCo(withRmw(ofCells(3, thread(rx(1), wy(1)), thread(ry(1), wx(1)), thread(rz(0), wz(1)), thread(wz(2))), 7, 8), 2, 2, 9, 8), " 2 3", []int{7, 8}},
		{"all three", tso, pulled(thread(wx(1)), thread(rx(1), rx(0))), " 1 2 3", []int{6, 7, 8}},
	} {
		broken := holdModel(t, c.what, c.m, c.g)
		if got := numbers(broken); got != c.broken {
			t.Errorf("%s: %s: it breaks%s; want%s", c.m.name, c.what, got, c.broken)
		}
		axiom, _ := first(broken)
		c.m.hold(t, c.what, c.g, axiom, c.by...)
	}
}

// Atomicity: the first pair of Rmw in fr; co, of more than one.
func TestP12_1Atomicity(t *testing.T) {
	three := func(co ...int) api.Graph {
		return withCo(withRmw(threads(thread(rx(0), wx(1)), thread(rx(1), wx(2)), thread(wx(3))), 2, 3, 4, 5), 0, co...)
	}
	twice := func(co ...int) api.Graph {
		return withCo(withRmw(threads(thread(rx(0), wx(1)), thread(rx(0), wx(2)), thread(wx(3))), 2, 3, 4, 5), 0, co...)
	}
	one := twice(0, 3, 5, 6)
	one.Rmw = pairs(2, 3)
	// Pairs of two cells, whose threads are listed with one another.
	apart := initial(2, X)
	apart.Events = append(apart.Events, read(1, 1, 0, X), read(0, 0, 0, X), write(2, 0, 5, X), write(2, 1, 6, X), write(0, 0, 1, X), write(1, 1, 2, X))
	apart = withRmw(byValues(apart), 2, 7, 3, 6)
	for _, m := range models {
		m.hold(t, "no pair torn", three(0, 3, 5, 6), 0)
		m.hold(t, "the first pair torn", three(0, 6, 3, 5), seq.Atomicity, 2, 3)
		m.hold(t, "the second pair torn", three(0, 3, 6, 5), seq.Atomicity, 4, 5)
		m.hold(t, "both pairs torn", twice(0, 6, 5, 3), seq.Atomicity, 2, 3)
		m.hold(t, "both pairs torn, the other way round", twice(0, 6, 3, 5), seq.Atomicity, 2, 3)
		m.hold(t, "two pairs of one write, the second torn", twice(0, 3, 5, 6), seq.Atomicity, 4, 5)
		m.hold(t, "two pairs of one write, the first torn", twice(0, 5, 3, 6), seq.Atomicity, 2, 3)
		m.hold(t, "the other one is no pair", one, 0)
		m.hold(t, "pairs apart, both torn", apart, seq.Atomicity, 2, 7)
		m.hold(t, "pairs apart, one torn", withCo(apart, 1, 1, 7, 5), seq.Atomicity, 3, 6)
		m.hold(t, "its own later write", withCo(withRmw(threads(thread(rx(0), wx(1), wx(2))), 2, 3), 0, 0, 4, 3), seq.Order, 3, 4)
	}
}

// What TSO leaves out of po, a write and a later read, and what brings it back: a barrier in between, or a pair in between; nothing else.
func TestP12_1BetweenWriteAndRead(t *testing.T) {
	own := func(l ...[]api.Event) api.Graph { // Wx1, .., Ry0 || Wy1, .., Rx0, with two cells more, of the threads' own
		return ofCells(4, slices.Concat(thread(wx(1)), l[0], thread(ry(0))), slices.Concat(thread(wy(1)), l[1], thread(rx(0))))
	}
	z, u := thread(read(0, 2, 0, X), write(0, 2, 1, X)), thread(read(0, 3, 0, X), write(0, 3, 1, X))
	both := own(z, u)
	tso.hold(t, "a read and a write that are no pair", both, 0)
	tso.hold(t, "a pair in one thread alone", withRmw(both, 5, 6), 0)
	tso.hold(t, "a pair in each", withRmw(both, 5, 6, 9, 10), seq.Global, 4, 5, 7, 8, 9, 11)
	tso.hold(t, "a compare-and-swap that failed", own(z[:1], u[:1]), 0)
	tso.hold(t, "writes of other cells", own(z[1:], u[1:]), 0)
	tso.hold(t, "a pair in one thread, a barrier in the other", withRmw(own(z, thread(ff(S))), 5, 6), seq.Global, 4, 5, 7, 8, 10)
	tso.hold(t, "a pair in one thread, a fence Acq in the other", withRmw(own(z, thread(ff(A))), 5, 6), 0)
	tso.hold(t, "a barrier in one thread alone", own(thread(ff(S)), nil), 0)
	tso.hold(t, "barriers behind all", threads(thread(wx(1), ry(0), ff(S)), thread(wy(1), rx(0), ff(S))), 0)
	tso.hold(t, "barriers ahead of all", threads(thread(ff(S), wx(1), ry(0)), thread(ff(S), wy(1), rx(0))), 0)
	tso.hold(t, "two barriers", buffering(ff(S), ff(S)), seq.Global, 2, 5, 6, 9)
	tso.hold(t, "a barrier among fences", buffering(ff(A), ff(S), ff(R)), seq.Global, 2, 6, 7, 11)
	tso.hold(t, "fences that are no barriers", buffering(ff(A), ff(R), ff(B)), 0)
	strong := withModes(buffering(), source, S, S, S, S)
	tso.hold(t, "accesses of SC are no barriers", strong, 0)
	strong = withModes(both, source, S, S, S, S, S, S, S, S)
	tso.hold(t, "nor are they in between", strong, 0)
	// The read of a pair is one of its two events: a write ahead of it is in order with it, and it with a read behind it.
	ends := withRmw(threads(thread(wx(1), ry(0), wy(2)), thread(wy(1), rx(0))), 3, 4)
	tso.hold(t, "a pair at the end, alone", withCo(ends, 1, 1, 4, 5), 0)
	pairAtEnd := withRmw(threads(thread(wx(1), ry(0), wy(2)), thread(wy(1), ff(S), rx(0))), 3, 4)
	tso.hold(t, "a pair at the end, a barrier in the other thread", withCo(pairAtEnd, 1, 1, 4, 5), seq.Global, 2, 3, 5, 7)
	pairAtEnd.Rmw = nil
	tso.hold(t, "the same, but no pair", withCo(pairAtEnd, 1, 1, 4, 5), seq.Global, 2, 4, 5, 7)
	pairAtBegin := withRmw(threads(thread(rx(0), wx(1), ry(0)), thread(wy(1), ff(S), rx(0))), 2, 3)
	tso.hold(t, "a pair at the begin, a barrier in the other thread", pairAtBegin, seq.Global, 3, 4, 5, 7)
	pairAtBegin.Rmw = nil
	tso.hold(t, "the same, but no pair", pairAtBegin, 0)
	for _, g := range []api.Graph{both, strong, own(z[:1], u[:1]), buffering(ff(A), ff(R), ff(B))} {
		if sc.of(t, g) != seq.Order {
			t.Errorf("P12.1: Sc takes store buffering: %+v", g)
		}
	}
}

// The same for the words' fences.
func TestP12_1WordsFences(t *testing.T) {
	for _, f := range words.fences {
		for _, h := range words.fences {
			g := threads(thread(wx(1), ff(f), ry(0)), thread(wy(1), ff(h), rx(0)))
			for _, m := range [][2]int{{P, P}, {L, Q}, {L, C}, {P, Q}} {
				g := withModes(g, words, m[0], f, m[1], m[0], h, m[1])
				sc.hold(t, fmt.Sprint("fences ", f, h), g, seq.Order, 2, 4, 5, 7)
				if f == Y && h == Y {
					tso.hold(t, fmt.Sprint("fences ", f, h), g, seq.Global, 2, 4, 5, 7)
				} else {
					tso.hold(t, fmt.Sprint("fences ", f, h), g, 0)
				}
			}
		}
	}
	// What hangs on a read is nothing to either model.
	g := withModes(threads(thread(wx(1), wy(1)), thread(ry(0), rx(0), wy(2))), words, P, P, P, P, P)
	g.Addr, g.Data, g.Ctrl = pairs(4, 5, 4, 6), pairs(4, 6), pairs(4, 5, 4, 6, 5, 6)
	sc.hold(t, "dependencies", g, 0)
	tso.hold(t, "dependencies", g, 0)
}

// Tests that are well known, with what is said of them.
func TestP12_1WellKnown(t *testing.T) {
	twice := withCo(withCo(threads(thread(wx(1), wy(2)), thread(wy(1), wx(2))), 0, 0, 5, 2), 1, 1, 3, 4)
	for _, c := range []struct {
		what     string
		g        api.Graph
		in1, in2 int
	}{
		{"MP", threads(thread(wx(1), wy(1)), thread(ry(1), rx(0))), 1, 3},
		{"MP, both seen", threads(thread(wx(1), wy(1)), thread(ry(1), rx(1))), 0, 0},
		{"IRIW", threads(thread(wx(1)), thread(wy(1)), thread(rx(1), ry(0)), thread(ry(1), rx(0))), 1, 3},
		{"WRC", threads(thread(wx(1)), thread(rx(1), wy(1)), thread(ry(1), rx(0))), 1, 3},
		{"RWC", threads(thread(wx(1)), thread(rx(1), ry(0)), thread(wy(1), rx(0))), 1, 0},
		{"RWC, a barrier", threads(thread(wx(1)), thread(rx(1), ry(0)), thread(wy(1), ff(S), rx(0))), 1, 3},
		{"2+2W", twice, 1, 3},
		{"S", withCo(threads(thread(wx(2), wy(1)), thread(ry(1), wx(1))), 0, 0, 5, 2), 1, 3},
		{"R", threads(thread(wx(1), wy(1)), thread(wy(2), rx(0))), 1, 0},
		{"R, a barrier in the second thread", threads(thread(wx(1), wy(1)), thread(wy(2), ff(S), rx(0))), 1, 3},
		{"ISA2", ofCells(3, thread(wx(1), wy(1)), thread(ry(1), wz(1)), thread(rz(1), rx(0))), 1, 3},
		{"its own waiting write is read, the other's is not", threads(thread(wx(1), rx(1), ry(0)), thread(wy(1), ry(1), rx(0))), 1, 0},
		{"n6", withCo(threads(thread(wx(1), rx(1), ry(0)), thread(wy(2), wx(2))), 0, 0, 6, 2), 1, 0},
		{"n7: a write that two threads see, not in one order", threads(thread(wx(1), rx(1), ry(0)), thread(wy(1)), thread(ry(1), rx(0))), 1, 0},
		{"CoRR", threads(thread(wx(1)), thread(rx(1), rx(0))), 1, 1},
		{"CoWW", withCo(threads(thread(wx(1), wx(2))), 0, 0, 3, 2), 1, 1},
		{"CoWR", threads(thread(wx(1), rx(0))), 1, 1},
		{"CoRW, its own", threads(thread(rx(1), wx(1))), 1, 1},
		{"CoRW, another's", threads(thread(rx(2), wx(1)), thread(wx(2))), 1, 1},
		{"CoRW, another's ahead", withCo(threads(thread(rx(2), wx(1)), thread(wx(2))), 0, 0, 4, 3), 0, 0},
		{"two exchanges", withRmw(threads(thread(rx(0), wx(1)), thread(rx(1), wx(2))), 2, 3, 4, 5), 0, 0},
		{"two exchanges that each see the other", withRmw(threads(thread(rx(2), wx(1)), thread(rx(1), wx(2))), 2, 3, 4, 5), 1, 1},
		{"a pair that reads its own write", withRmw(threads(thread(rx(1), wx(1))), 2, 3), 1, 1},
		{"exchanges for writes in SB", twoPairs(), 1, 3},
	} {
		for _, m := range models {
			holdModel(t, c.what, m, c.g)
		}
		if a, b := sc.of(t, c.g), tso.of(t, c.g); a != c.in1 || b != c.in2 {
			t.Errorf("P12.1: %s: Sc %d, Tso %d; want %d, %d", c.what, a, b, c.in1, c.in2)
		}
	}
}

// wheel is MaxEvents events: store buffering around all threads, each of which writes its cell and reads the next one's, with a fence in between.
func wheel(u tongue, fences int) api.Graph {
	g := initial(64, u.weak)
	for t := range 64 {
		g.Events = append(g.Events, write(t, t, 1, u.weak), fence(t, fences), read(t, (t+1)%64, 0, u.weak))
	}
	return byValues(g)
}

// MaxEvents events, and MaxThreads threads.
func TestP12_1MaxEvents(t *testing.T) {
	var around, on []int
	for i := 64; i < 256; i += 3 {
		around = append(around, i, i+2)
	}
	for i := 128; i < 256; i++ {
		on = append(on, i)
	}
	for _, u := range tongues {
		for _, f := range u.fences {
			g := wheel(u, f)
			if len(g.Events) != api.MaxEvents {
				t.Fatalf("not all is tried: %d", len(g.Events))
			}
			what := fmt.Sprint("a wheel, fences ", f)
			sc.hold(t, what, g, seq.Order, around...)
			if f == u.full {
				tso.hold(t, what, g, seq.Global, around...)
			} else {
				tso.hold(t, what, g, 0)
			}
		}
		// A value is handed on from thread to thread, and comes back.
		g := initial(128, u.weak)
		for t := range 64 {
			g.Events = append(g.Events, read(t, t, 1, u.weak), write(t, (t+1)%64, 1, u.weak))
		}
		g = byValues(g)
		sc.hold(t, "handed around", g, seq.Order, on...)
		tso.hold(t, "handed around", g, seq.Global, on...)
		g.Rf[0].A, g.Events[128].Val = 0, 0
		sc.hold(t, "handed on", g, 0)
		tso.hold(t, "handed on", g, 0)
	}
	long := initial(1, X)
	for i := range 85 {
		long.Events = append(long.Events, read(63, 0, uint64(i), S), write(63, 0, uint64(i+1), S), fence(63, S))
		long.Rmw = append(long.Rmw, api.Pair{A: 1 + 3*i, B: 2 + 3*i})
	}
	long = byValues(long)
	sc.hold(t, "pairs of one thread", long, 0)
	tso.hold(t, "pairs of one thread", long, 0)
	more := copyGraph(long)
	more.Events = append(more.Events, fence(63, S))
	for _, m := range models {
		if a, by, e := m.tell(more); a != 0 || len(by) != 0 || e != api.EGRAPH {
			t.Errorf("P12.1: one more than MaxEvents: %s: %d, by %v, %v", m.name, a, by, e)
		}
	}
}

// Wrong inputs: graphs that are well-formed neither as the source's nor as the words'.
func TestP12_1Refused(t *testing.T) {
	wrong := map[string]func(g *api.Graph){
		"a read without rf":             func(g *api.Graph) { g.Rf = nil },
		"too few initial writes":        func(g *api.Graph) { g.Cells = 3 },
		"a mode of the other tongue":    func(g *api.Graph) { g.Events[3].Mode += 10 },
		"initial writes of the other":   func(g *api.Graph) { g.Events[0].Mode += 10 },
		"a value that was not written":  func(g *api.Graph) { g.Events[3].Val = 9 },
		"a write that is not in co":     func(g *api.Graph) { g.Co[0] = g.Co[0][:1] },
		"co without the initial write":  func(g *api.Graph) { g.Co[0] = []int{2, 0} },
		"no list of co":                 func(g *api.Graph) { g.Co = g.Co[:1] },
		"a pair of a write and a read":  func(g *api.Graph) { g.Rmw = pairs(2, 3) },
		"addr in the source":            func(g *api.Graph) { g.Addr = pairs(3, 2) },
		"ctrl in the source":            func(g *api.Graph) { g.Ctrl = pairs(3, 4) },
		"a thread too many":             func(g *api.Graph) { g.Events[2].Thread = api.MaxThreads },
		"a kind that there is not":      func(g *api.Graph) { g.Events[2].Kind = 4 },
		"a fence with a cell":           func(g *api.Graph) { g.Events[2].Kind = api.Fence },
		"a cell that there is not":      func(g *api.Graph) { g.Events[3].Loc = 2 },
		"a number of cells below 0":     func(g *api.Graph) { g.Cells = -1 },
		"more cells than there may be":  func(g *api.Graph) { g.Cells = api.MaxCells + 1 },
		"a pair that is no event's":     func(g *api.Graph) { g.Rf[0].A = 99 },
		"a number of co that is no one": func(g *api.Graph) { g.Co[1][0] = -7 },
	}
	for what, spoil := range wrong {
		g := buffering()
		spoil(&g)
		for _, m := range models {
			if a, by, e := m.tell(g); a != 0 || len(by) != 0 || e != api.EGRAPH {
				t.Errorf("P12.1: %s: %s: %d, by %v, %v", what, m.name, a, by, e)
			}
		}
		for _, lse := range []bool{false, true} {
			holdNone(t, what, g, lse)
		}
	}
}
