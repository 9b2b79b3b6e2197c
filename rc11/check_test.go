package rc11_test

import (
	"fmt"
	"slices"
	"testing"

	"sextant/api"
	"sextant/rc11"
)

// buffering is Wx1, Ry0 || Wy1, Rx0.
func buffering(w0, r0, w1, r1 int) api.Graph {
	return threads(seq(wx(1, w0), ry(0, r0)), seq(wy(1, w1), rx(0, r1)))
}

// fenced is the same, all Rlx, with a fence between the two of each thread.
func fenced(f0, f1 int) api.Graph {
	return threads(seq(wx(1, X), ff(f0), ry(0, X)), seq(wy(1, X), ff(f1), rx(0, X)))
}

// passing is Wx1, Wy1 || Ry1, Rx0.
func passing(w0, w1, r0, r1 int) api.Graph {
	return threads(seq(wx(1, w0), wy(1, w1)), seq(ry(1, r0), rx(0, r1)))
}

// loads is Rx1, Wy1 || Ry1, Wx1.
func loads(r0, w0, r1, w1 int) api.Graph {
	return threads(seq(rx(1, r0), wy(1, w0)), seq(ry(1, r1), wx(1, w1)))
}

// tornPair is Rx0, Wx1 a pair || Wx2, which comes between.
func tornPair(r, w, other int) api.Graph {
	return withCo(withRmw(threads(seq(rx(0, r), wx(1, w)), seq(wx(2, other))), 2, 3), 0, 0, 4, 3)
}

// Every row of the chapter's examples.
func TestP10_2Examples(t *testing.T) {
	holdCheck(t, "store buffering, Rlx", buffering(X, X, X, X), 0)
	holdCheck(t, "store buffering, SC", buffering(S, S, S, S), rc11.Sequential, 2, 3, 4, 5)
	holdCheck(t, "fences SC", fenced(S, S), rc11.Sequential, 3, 6)
	holdCheck(t, "fences AcqRel", fenced(B, B), 0)
	holdCheck(t, "message passing", passing(X, R, A, X), rc11.Coherence, 2, 5)
	holdCheck(t, "message passing, Ry1 Rlx", passing(X, R, X, X), 0)
	holdCheck(t, "load buffering", loads(X, X, X, X), rc11.ThinAir, 2, 3, 4, 5)
	holdCheck(t, "a read of what is older", threads(seq(wx(1, X)), seq(rx(1, X), rx(0, X))), rc11.Coherence, 3, 4)
	holdCheck(t, "a torn pair", tornPair(X, X, X), rc11.Atomicity, 2, 3)
}

// Those rows with every mode that each event may have: which of them matter can be told by hand.
func TestP10_2ExamplesWithAllModes(t *testing.T) {
	everyMode := func(try func(w0, r0, w1, r1 int)) {
		for i := range 81 {
			try(writeModes[i%3], readModes[i/3%3], writeModes[i/9%3], readModes[i/27])
		}
	}
	everyMode(func(w0, r0, w1, r1 int) {
		what := fmt.Sprint("modes ", w0, r0, w1, r1)
		all := min(w0, r0, w1, r1) == S
		if all {
			holdCheck(t, "buffering, "+what, buffering(w0, r0, w1, r1), rc11.Sequential, 2, 3, 4, 5)
		} else {
			holdCheck(t, "buffering, "+what, buffering(w0, r0, w1, r1), 0)
		}
		if w1 != X && r0 != X {
			holdCheck(t, "passing, "+what, passing(w0, w1, r0, r1), rc11.Coherence, 2, 5)
		} else {
			holdCheck(t, "passing, "+what, passing(w0, w1, r0, r1), 0)
		}
		// Both threads must be in sw with each other, that an event happens before itself; with one of them the write reads what happens later.
		switch g := loads(r0, w0, r1, w1); {
		case w0 != X && r1 != X && w1 != X && r0 != X:
			holdCheck(t, "loads, "+what, g, rc11.Coherence, 2)
		case w0 != X && r1 != X:
			holdCheck(t, "loads, "+what, g, rc11.Coherence, 2, 5)
		case w1 != X && r0 != X:
			holdCheck(t, "loads, "+what, g, rc11.Coherence, 4, 3)
		case all:
			t.Errorf("not tried: %s", what)
		default:
			holdCheck(t, "loads, "+what, g, rc11.ThinAir, 2, 3, 4, 5)
		}
		older := 3
		if w0 != X && r0 != X { // the write happens before the reads
			older = 2
		}
		holdCheck(t, "older, "+what, threads(seq(wx(1, w0)), seq(rx(1, r0), rx(0, r1))), rc11.Coherence, older, 4)
		holdCheck(t, "torn, "+what, tornPair(r0, w0, w1), rc11.Atomicity, 2, 3)
	})
	for _, f := range fenceModes {
		for _, h := range fenceModes {
			if what := fmt.Sprint("fences ", f, h); f == S && h == S {
				holdCheck(t, what, fenced(f, h), rc11.Sequential, 3, 6)
			} else {
				holdCheck(t, what, fenced(f, h), 0)
			}
		}
	}
}

// Each axiom by itself, two at once: the first one is told.
func TestP10_2OneAndTwo(t *testing.T) {
	older := seq(wx(1, X), rx(0, X))
	cases := []struct {
		what   string
		g      api.Graph
		broken []int
		by     []int
	}{
		{"coherence alone", threads(older), []int{1}, []int{2, 3}},
		{"atomicity alone", tornPair(X, X, X), []int{2}, []int{2, 3}},
		{"sequence alone", buffering(S, S, S, S), []int{3}, []int{2, 3, 4, 5}},
		{"thin air alone", loads(X, X, X, X), []int{4}, []int{2, 3, 4, 5}},
		{"coherence and atomicity", withCo(withRmw(threads(seq(rx(0, X), wx(1, X)), seq(wx(2, X), rx(0, X))), 2, 3), 0, 0, 4, 3), []int{1, 2}, []int{4, 5}},
		{"coherence and sequence", threads(seq(wx(1, S), ry(0, S)), seq(wy(1, S), rx(0, S), rx(1, X), rx(0, X))), []int{1, 3}, []int{6, 7}},
		{"coherence and thin air", loads(A, R, A, R), []int{1, 4}, []int{2}},
		{"atomicity and sequence", ofCells(3, seq(wx(1, S), ry(0, S)), seq(wy(1, S), rx(0, S)), seq(read(0, 2, 0, X), write(0, 2, 1, X)), seq(write(0, 2, 2, X))), []int{2, 3}, []int{7, 8}},
		{"atomicity and thin air", ofCells(3, seq(rx(1, X), wy(1, X)), seq(ry(1, X), wx(1, X)), seq(read(0, 2, 0, X), write(0, 2, 1, X)), seq(write(0, 2, 2, X))), []int{2, 4}, []int{7, 8}},
		{"sequence and thin air", ofCells(4, seq(wx(1, S), ry(0, S)), seq(wy(1, S), rx(0, S)), seq(read(0, 2, 1, X), write(0, 3, 1, X)), seq(read(0, 3, 1, X), write(0, 2, 1, X))), []int{3, 4}, []int{4, 5, 6, 7}},
	}
	for i, c := range cases {
		if i == 7 || i == 8 {
			c.g = withCo(withRmw(c.g, 7, 8), 2, 2, 9, 8)
		}
		var got []int
		for a := range holdModel(t, c.what, c.g) {
			got = append(got, a)
		}
		if slices.Sort(got); !slices.Equal(got, c.broken) {
			t.Errorf("%s: it breaks %v; want %v", c.what, got, c.broken)
		}
		holdCheck(t, c.what, c.g, c.broken[0], c.by...)
	}
}

// The least a; alone, if it happens before itself, even where a later b is in eco with it; else with the least b.
func TestP10_2WhichEvents(t *testing.T) {
	// 3 happens before 4, 5 and 6, all of which are ahead of it in eco; 4 before 5 and 6 too.
	g := withCo(threads(seq(wx(1, X)), seq(wx(2, X), wx(3, X), rx(0, X), rx(0, X))), 0, 0, 4, 3, 2)
	holdCheck(t, "the least a and the least b", g, rc11.Coherence, 3, 4)
	// of 4 the least b is not the next one: the reads 5 and 6 are of 4 itself and of the initial write.
	g = threads(seq(wx(1, X)), seq(ry(0, X), wx(2, X), rx(2, X), rx(0, X), rx(0, X)))
	holdCheck(t, "a later b", g, rc11.Coherence, 4, 6)
	// (2, 2) is in hb by release and acquire both ways, and (5, 2) in eco.
	holdCheck(t, "a by itself", loads(S, S, S, S), rc11.Coherence, 2)
	// A thread of lesser numbers breaks it by two, one of greater numbers is in hb with itself.
	g = ofCells(3, seq(write(0, 2, 1, X), read(0, 2, 0, X)), seq(rx(1, A), wy(1, R)), seq(ry(1, A), wx(1, R)))
	holdCheck(t, "two, ahead of one by itself", g, rc11.Coherence, 3, 4)
	g = ofCells(3, seq(rx(1, A), wy(1, R)), seq(ry(1, A), wx(1, R)), seq(write(0, 2, 1, X), read(0, 2, 0, X)))
	holdCheck(t, "one by itself, ahead of two", g, rc11.Coherence, 3)
	// A b that is less than its a, in another thread.
	g = threads(seq(ry(1, A), rx(0, X)), seq(wx(1, X), wy(1, R)))
	holdCheck(t, "b less than a", g, rc11.Coherence, 4, 3)
	// Two torn pairs: the first one is told; then the second one is not torn, then the first one.
	three := func(co ...int) api.Graph {
		return withCo(withRmw(threads(seq(rx(0, X), wx(1, X)), seq(rx(1, X), wx(2, X)), seq(wx(3, X))), 2, 3, 4, 5), 0, co...)
	}
	holdCheck(t, "no pair torn", three(0, 3, 5, 6), 0)
	holdCheck(t, "the first pair torn", three(0, 6, 3, 5), rc11.Atomicity, 2, 3)
	holdCheck(t, "the second pair torn", three(0, 3, 6, 5), rc11.Atomicity, 4, 5)
	both := withCo(withRmw(threads(seq(rx(0, X), wx(1, X)), seq(rx(0, X), wx(2, X)), seq(wx(3, X))), 2, 3, 4, 5), 0, 0, 6, 5, 3)
	holdCheck(t, "both pairs torn", both, rc11.Atomicity, 2, 3)
	both = withCo(both, 0, 0, 3, 5, 6)
	holdCheck(t, "two pairs of one write", both, rc11.Atomicity, 4, 5)
	both.Rmw = pairs(2, 3)
	holdCheck(t, "two reads and writes of one write, one a pair", both, 0)
}

// The edges: no event and no cell, initial writes alone, fences alone.
func TestP10_2NothingMuch(t *testing.T) {
	for _, g := range []api.Graph{{}, initial(1, X), initial(7, X), initial(256, X), threads(seq(ff(S), ff(S)), seq(ff(S))), {Events: in(0, ff(S), ff(A), ff(R), ff(B))}} {
		holdCheck(t, fmt.Sprint(len(g.Events), " events"), g, 0)
	}
	f := derived(t, api.Graph{})
	for i, r := range relations(f) {
		if r == nil || r.Len() != 0 {
			t.Errorf("P10.1: %s of no events: %v", relationNames[i], r)
		}
	}
	f = derived(t, initial(256, X))
	for i, r := range relations(f) {
		if r.Len() != 256 || r.Size() != []int{256, 0, 0, 0, 0, 0, 0}[i] {
			t.Errorf("P10.1: %s of initial writes: %d points, %d pairs", relationNames[i], r.Len(), r.Size())
		}
	}
}

// Tests that are well known, with what RC11 says of them.
func TestP10_2WellKnown(t *testing.T) {
	iriw := func(w, r, s int) api.Graph {
		return threads(seq(wx(1, w)), seq(wy(1, w)), seq(rx(1, r), ry(0, s)), seq(ry(1, r), rx(0, s)))
	}
	iriwFences := func(f, h int) api.Graph {
		return threads(seq(wx(1, X)), seq(wy(1, X)), seq(rx(1, X), ff(f), ry(0, X)), seq(ry(1, X), ff(h), rx(0, X)))
	}
	twice := func(w, v int) api.Graph { // 2+2W
		g := threads(seq(wx(1, w), wy(2, v)), seq(wy(1, w), wx(2, v)))
		return withCo(withCo(g, 0, 0, 5, 2), 1, 1, 3, 4)
	}
	wrc := func(w, v, r, s int) api.Graph {
		return threads(seq(wx(1, w)), seq(rx(1, r), wy(1, v)), seq(ry(1, s), rx(0, X)))
	}
	// x and y, and the value 3 of y last: Z6.U of the model's paper.
	z6u := withCo(withRmw(threads(seq(wx(1, S), wy(1, R)), seq(ry(1, S), wy(2, S), ry(3, X)), seq(wy(3, S), rx(0, S))), 4, 5), 1, 1, 3, 5, 7)
	for _, c := range []struct {
		what string
		g    api.Graph
		want int
	}{
		{"IRIW, SC", iriw(S, S, S), rc11.Sequential},
		{"IRIW, reads Acq", iriw(S, A, A), 0},
		{"IRIW, second reads Acq", iriw(S, S, A), 0},
		{"IRIW, first reads Acq", iriw(S, A, S), 0}, // sw and then po is not of scb
		{"IRIW, writes Rel", iriw(R, S, S), 0},
		{"IRIW with fences SC", iriwFences(S, S), rc11.Sequential},
		{"IRIW with a fence AcqRel", iriwFences(S, B), 0},
		{"2+2W, SC", twice(S, S), rc11.Sequential},
		{"2+2W, Rel", twice(S, R), 0},
		{"WRC, Rel and Acq", wrc(X, R, X, A), rc11.Coherence},
		{"WRC, with Rel and Acq of the first too", wrc(R, R, A, A), rc11.Coherence},
		{"WRC, Rlx", wrc(R, X, A, A), 0},
		{"Z6.U", z6u, 0},
	} {
		if c.what == "WRC, Rel and Acq" {
			// Rx1 is Rlx: Wx1 does not happen before Rx0, but the read of it does.
			holdCheck(t, c.what, c.g, c.want, 3, 6)
			continue
		}
		holdModel(t, c.what, c.g)
		if a := axiomOf(t, c.g); a != c.want {
			t.Errorf("P10.2: %s: %d; want %d", c.what, a, c.want)
		}
	}
}
