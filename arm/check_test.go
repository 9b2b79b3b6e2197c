package arm_test

import (
	"fmt"
	"slices"
	"testing"

	"sextant/api"
	"sextant/arm"
)

// buffering is Wx1, Ry0 || Wy1, Rx0.
func buffering(w0, r0, w1, r1 int) api.Graph {
	return threads(seq(wx(1, w0), ry(0, r0)), seq(wy(1, w1), rx(0, r1)))
}

// passing is Wx1, Wy1 || Ry1, Rx0.
func passing(w0, w1, r0, r1 int) api.Graph {
	return threads(seq(wx(1, w0), wy(1, w1)), seq(ry(1, r0), rx(0, r1)))
}

// loads is Rx1, Wy1 || Ry1, Wx1.
func loads(r0, w0, r1, w1 int) api.Graph {
	return threads(seq(rx(1, r0), wy(1, w0)), seq(ry(1, r1), wx(1, w1)))
}

// older is Wx1 || Rx1, Rx0.
func older(w, r0, r1 int) api.Graph { return threads(seq(wx(1, w)), seq(rx(1, r0), rx(0, r1))) }

// tornPair is Rx0, Wx1 a pair || Wx2, which comes between.
func tornPair(r, w, other int) api.Graph {
	return withCo(withRmw(threads(seq(rx(0, r), wx(1, w)), seq(wx(2, other))), 2, 3), 0, 0, 4, 3)
}

// overwritten is Wy1, Wx1, Wx2 || Rx2, Ry0.
func overwritten(w0, w1, w2, r0, r1 int) api.Graph {
	return threads(seq(wy(1, w0), wx(1, w1), wx(2, w2)), seq(rx(2, r0), ry(0, r1)))
}

// handedOn is Wy1 || Ry1, Wx1 with data from Ry1 || a pair Rx1, Wx2, then Rx2, Ry0.
func handedOn(last int) api.Graph {
	g := threads(seq(wy(1, P)), seq(ry(1, P), wx(1, P)), seq(rx(1, P), wx(2, P), rx(2, last), ry(0, P)))
	return withRmw(withData(g, 3, 4), 5, 6)
}

// Every row of the chapter's examples.
func TestP11_2Examples(t *testing.T) {
	holdCheck(t, "store buffering", buffering(P, P, P, P), 0)
	holdCheck(t, "store buffering, Release and Acquire", buffering(L, A, L, A), arm.External, 2, 3, 4, 5)
	holdCheck(t, "store buffering, Release and AcquirePC", buffering(L, Q, L, Q), 0)
	holdCheck(t, "message passing", passing(P, P, P, P), 0)
	holdCheck(t, "message passing, Release and Acquire", passing(P, L, A, P), arm.External, 2, 3, 4, 5)
	holdCheck(t, "message passing, Release and AcquirePC", passing(P, L, Q, P), arm.External, 2, 3, 4, 5)
	holdCheck(t, "message passing, Release and addr", withAddr(passing(P, L, P, P), 4, 5), arm.External, 2, 3, 4, 5)
	holdCheck(t, "message passing, Release and ctrl", withCtrl(passing(P, L, P, P), 4, 5), 0)
	holdCheck(t, "load buffering", loads(P, P, P, P), 0)
	holdCheck(t, "load buffering, ctrl in both threads", withCtrl(loads(P, P, P, P), 2, 3, 4, 5), arm.External, 2, 3, 4, 5)
	holdCheck(t, "load buffering, data in the first thread", withData(loads(P, P, P, P), 2, 3), 0)
	holdCheck(t, "load buffering, data in the second thread", withData(loads(P, P, P, P), 4, 5), 0)
	holdCheck(t, "a read of what is older", older(P, P, P), arm.Internal, 2, 3, 4)
	holdCheck(t, "a torn pair", tornPair(P, P, P), arm.Atomicity, 2, 3)
	holdCheck(t, "a plain write behind a Release", overwritten(P, L, P, A, P), arm.External, 2, 4, 5, 6)
	holdCheck(t, "a pair's own write, read by an Acquire", handedOn(A), arm.External, 2, 3, 4, 6, 7, 8)
	holdCheck(t, "a pair's own write, read by an AcquirePC", handedOn(Q), arm.External, 2, 3, 4, 6, 7, 8)
	holdCheck(t, "a pair's own write, read by a plain read", handedOn(P), 0)
}

// allowedIf holds Check of a graph against 0, or External by these events.
func allowedIf(t *testing.T, what string, allowed bool, g api.Graph, by ...int) {
	t.Helper()
	if allowed {
		holdCheck(t, what, g, 0)
	} else {
		holdCheck(t, what, g, arm.External, by...)
	}
}

// Those rows with every mode that each event may have: which of them matter can be told by hand.
func TestP11_2ExamplesWithAllModes(t *testing.T) {
	for i := range 36 {
		w0, r0, w1, r1 := writeModes[i%2], readModes[i/2%3], writeModes[i/6%2], readModes[i/12]
		what := fmt.Sprint("modes ", w0, r0, w1, r1)
		inBuffers := w0 == L && r0 == A && w1 == L && r1 == A
		allowedIf(t, "buffering, "+what, !inBuffers, buffering(w0, r0, w1, r1), 2, 3, 4, 5)
		// The first thread's order is by its second write, the second thread's by its first read.
		kept := w1 == L && r0 != P
		allowedIf(t, "passing, "+what, !kept, passing(w0, w1, r0, r1), 2, 3, 4, 5)
		allowedIf(t, "passing, addr, "+what, w1 != L, withAddr(passing(w0, w1, r0, r1), 4, 5), 2, 3, 4, 5)
		allowedIf(t, "passing, ctrl, "+what, !kept, withCtrl(passing(w0, w1, r0, r1), 4, 5), 2, 3, 4, 5)
		inLoads := (r0 != P || w0 == L) && (r1 != P || w1 == L)
		allowedIf(t, "loads, "+what, !inLoads, loads(r0, w0, r1, w1), 2, 3, 4, 5)
		allowedIf(t, "loads, ctrl, "+what, false, withCtrl(loads(r0, w0, r1, w1), 2, 3, 4, 5), 2, 3, 4, 5)
		allowedIf(t, "loads, data, "+what, r1 == P && w1 == P, withData(loads(r0, w0, r1, w1), 2, 3), 2, 3, 4, 5)
		allowedIf(t, "loads, data in the other thread, "+what, r0 == P && w0 == P, withData(loads(r0, w0, r1, w1), 4, 5), 2, 3, 4, 5)
		holdCheck(t, "older, "+what, older(w0, r0, r1), arm.Internal, 2, 3, 4)
		holdCheck(t, "torn, "+what, tornPair(r0, w0, w1), arm.Atomicity, 2, 3)
		for _, w2 := range writeModes {
			kept = r0 != P && (w1 == L || w2 == L)
			allowedIf(t, fmt.Sprint("overwritten, ", what, " and ", w2), !kept, overwritten(w0, w1, w2, r0, r1), 2, 4, 5, 6)
		}
	}
	for i := range 648 {
		g := handedOn(readModes[i%3])
		for k, at := range []int{8, 5, 3} {
			g.Events[at].Mode = readModes[i/[]int{3, 9, 27}[k]%3]
		}
		for k, at := range []int{2, 4, 6} {
			g.Events[at].Mode = writeModes[i/[]int{81, 162, 324}[k]%2]
		}
		what := fmt.Sprint("handed on, case ", i)
		mode := func(at int) int { return g.Events[at].Mode }
		switch { // the shortest way from the pair to the last read
		case mode(5) != P:
			holdCheck(t, what, g, arm.External, 2, 3, 4, 5, 8)
		case mode(6) == L && mode(8) == A:
			holdCheck(t, what, g, arm.External, 2, 3, 4, 6, 8)
		default:
			allowedIf(t, what, mode(7) == P, g, 2, 3, 4, 6, 7, 8)
		}
	}
	for _, f := range fenceModes {
		for _, h := range fenceModes {
			what := fmt.Sprint("fences ", f, h)
			g := threads(seq(wx(1, P), ff(f), ry(0, P)), seq(wy(1, P), ff(h), rx(0, P)))
			allowedIf(t, "buffering, "+what, f != Y || h != Y, g, 2, 4, 5, 7)
			g = threads(seq(wx(1, P), ff(f), wy(1, P)), seq(ry(1, P), ff(h), rx(0, P)))
			allowedIf(t, "passing, "+what, f != Y, g, 2, 4, 5, 7)
			g = threads(seq(rx(1, P), ff(f), wy(1, P)), seq(ry(1, P), ff(h), wx(1, P)))
			allowedIf(t, "loads, "+what, false, g, 2, 4, 5, 7)
		}
	}
}

// Each axiom by itself, two at once: the first one is told.
func TestP11_2OneAndTwo(t *testing.T) {
	torn := func(g api.Graph, a, b, other int) api.Graph { return withCo(withRmw(g, a, b), 2, 2, other, b) }
	cases := []struct {
		what   string
		g      api.Graph
		broken []int
		by     []int
	}{
		{"Internal alone", older(P, P, P), []int{1}, []int{2, 3, 4}},
		{"External alone", buffering(L, A, L, A), []int{2}, []int{2, 3, 4, 5}},
		{"Atomicity alone", tornPair(P, P, P), []int{3}, []int{2, 3}},
		{"Internal and External", older(P, A, P), []int{1, 2}, []int{2, 3, 4}},
		{"External of lesser numbers, Internal behind it", ofCells(3, seq(wx(1, L), ry(0, A)), seq(wy(1, L), rx(0, A)), seq(wz(1, P), rz(0, P))), []int{1, 2}, []int{7, 8}},
		{"Internal and Atomicity", withCo(withRmw(threads(seq(rx(0, P), wx(1, P)), seq(wx(2, P), rx(0, P))), 2, 3), 0, 0, 4, 3), []int{1, 3}, []int{4, 5}},
		{"External and Atomicity", torn(ofCells(3, seq(rz(0, P), wz(1, P)), seq(wz(2, P)), seq(wx(1, L), ry(0, A)), seq(wy(1, L), rx(0, A))), 3, 4, 5), []int{2, 3}, []int{6, 7, 8, 9}},
		{"all three", torn(ofCells(3, seq(rz(0, P), wz(1, P)), seq(wz(2, P)), seq(wx(1, P)), seq(rx(1, A), rx(0, P))), 3, 4, 5), []int{1, 2, 3}, []int{6, 7, 8}},
	}
	for _, c := range cases {
		var got []int
		for a := range holdModel(t, c.what, c.g) {
			got = append(got, a)
		}
		if slices.Sort(got); !slices.Equal(got, c.broken) {
			t.Errorf("%s: it breaks %v; want %v", c.what, got, c.broken)
		}
		holdCheck(t, c.what, c.g, c.broken[0], c.by...)
	}
}

// Internal: a read of what its thread writes later, or has overwritten, or of what stands against its thread in co.
func TestP11_2Internal(t *testing.T) {
	holdCheck(t, "a read of a later write", threads(seq(rx(1, P), wx(1, P))), arm.Internal, 2, 3)
	holdCheck(t, "a read of an overwritten write", threads(seq(wx(1, P), wx(2, P), rx(1, P))), arm.Internal, 3, 4)
	holdCheck(t, "a read of the initial write behind a write", threads(seq(wx(1, P), rx(0, P))), arm.Internal, 2, 3)
	holdCheck(t, "two writes against co", withCo(threads(seq(wx(1, P), wx(2, P))), 0, 0, 3, 2), arm.Internal, 2, 3)
	holdCheck(t, "a read, and a write ahead of what it reads", withCo(threads(seq(rx(2, P), wx(1, P)), seq(wx(2, P))), 0, 0, 3, 4), arm.Internal, 2, 3, 4)
	holdCheck(t, "a read, and a write behind what it reads", threads(seq(rx(2, P), wx(1, P)), seq(wx(2, P))), arm.Internal, 2, 3, 4)
	holdCheck(t, "a read, and a write behind what it reads in co", withCo(threads(seq(rx(2, P), wx(1, P)), seq(wx(2, P))), 0, 0, 4, 3), 0)
	// What is of two cells is not of Internal's: po and Same leaves it out.
	holdCheck(t, "two cells", threads(seq(rx(1, P), wy(1, P)), seq(ry(1, P), wx(1, P))), 0)
	holdCheck(t, "two cells, and a fence", threads(seq(wx(1, P), ff(D), ry(0, P)), seq(wy(1, P), ff(D), rx(0, P))), 0)
	holdCheck(t, "a pair that reads its own write", withRmw(threads(seq(rx(1, A), wx(1, L))), 2, 3), arm.Internal, 2, 3)
	// The least event, and the shortest way back to it.
	g := ofCells(3, seq(rx(1, P), wx(1, P)), seq(wy(1, P), ry(0, P), ry(1, P), ry(0, P)))
	holdCheck(t, "two of them", g, arm.Internal, 3, 4)
}

// Atomicity: the first pair of Rmw in fre; coe, of more than one.
func TestP11_2Atomicity(t *testing.T) {
	three := func(co ...int) api.Graph {
		return withCo(withRmw(threads(seq(rx(0, P), wx(1, P)), seq(rx(1, P), wx(2, P)), seq(wx(3, P))), 2, 3, 4, 5), 0, co...)
	}
	holdCheck(t, "no pair torn", three(0, 3, 5, 6), 0)
	holdCheck(t, "the first pair torn", three(0, 6, 3, 5), arm.Atomicity, 2, 3)
	holdCheck(t, "the second pair torn", three(0, 3, 6, 5), arm.Atomicity, 4, 5)
	twice := func(co ...int) api.Graph {
		return withCo(withRmw(threads(seq(rx(0, P), wx(1, P)), seq(rx(0, P), wx(2, P)), seq(wx(3, P))), 2, 3, 4, 5), 0, co...)
	}
	holdCheck(t, "both pairs torn", twice(0, 6, 5, 3), arm.Atomicity, 2, 3)
	holdCheck(t, "both pairs torn, the other way round", twice(0, 6, 3, 5), arm.Atomicity, 2, 3)
	holdCheck(t, "two pairs of one write, the second torn", twice(0, 3, 5, 6), arm.Atomicity, 4, 5)
	holdCheck(t, "two pairs of one write, the first torn", twice(0, 5, 3, 6), arm.Atomicity, 2, 3)
	one := twice(0, 3, 5, 6)
	one.Rmw = pairs(2, 3)
	holdCheck(t, "the other one is no pair", one, 0)
	// Pairs of two cells, whose threads are listed with one another.
	g := initial(2, P)
	g.Events = append(g.Events, read(1, 1, 0, P), read(0, 0, 0, P), write(2, 0, 5, P), write(2, 1, 6, P), write(0, 0, 1, P), write(1, 1, 2, P))
	g = withRmw(byValues(g), 2, 7, 3, 6)
	holdCheck(t, "pairs apart, both torn", g, arm.Atomicity, 2, 7)
	holdCheck(t, "pairs apart, one torn", withCo(g, 1, 1, 7, 5), arm.Atomicity, 3, 6)
	// Its own thread's write between the two in co is Internal's.
	holdCheck(t, "its own later write", withCo(withRmw(threads(seq(rx(0, P), wx(1, P), wx(2, P))), 2, 3), 0, 0, 4, 3), arm.Internal, 3, 4)
}

// Tests that are well known, with what ARMv8 says of them.
func TestP11_2WellKnown(t *testing.T) {
	iriw := func(w, r int) api.Graph {
		return threads(seq(wx(1, w)), seq(wy(1, w)), seq(rx(1, r), ry(0, r)), seq(ry(1, r), rx(0, r)))
	}
	twice := func(w, v int) api.Graph { // 2+2W
		return withCo(withCo(threads(seq(wx(1, w), wy(2, v)), seq(wy(1, w), wx(2, v))), 0, 0, 5, 2), 1, 1, 3, 4)
	}
	wrc := threads(seq(wx(1, P)), seq(rx(1, P), wy(1, P)), seq(ry(1, P), rx(0, P)))
	isa2 := ofCells(3, seq(wx(1, P), ff(Y), wy(1, P)), seq(ry(1, P), wz(1, P)), seq(rz(1, P), rx(0, P)))
	s := func(w int) api.Graph { // Wx2, Wy1 || Ry1, Wx1 ahead of Wx2
		return withCo(threads(seq(wx(2, P), wy(1, w)), seq(ry(1, P), wx(1, P))), 0, 0, 5, 2)
	}
	r := func(f, h int) api.Graph { // Wx1, Wy1 || Wy2 behind Wy1, Rx0
		return threads(seq(wx(1, P), ff(f), wy(1, P)), seq(wy(2, P), ff(h), rx(0, P)))
	}
	// Wx1, Wy1 || Ry1, Wz1, Rz1, Rx0
	ppo := ofCells(3, seq(wx(1, P), ff(Y), wy(1, P)), seq(ry(1, P), wz(1, P), rz(1, P), rx(0, P)))
	ppo.Addr = pairs(8, 9)
	ppoca, ppoaa, ppoda := copyGraph(ppo), copyGraph(ppo), copyGraph(ppo)
	ppoca.Ctrl, ppoaa.Addr, ppoda.Data = pairs(6, 7), pairs(6, 7, 8, 9), pairs(6, 7)
	// Rx1, Ry0, Wz1 || Rz1, Ry0, Wx1
	ww := ofCells(3, seq(rx(1, P), ry(0, P), wz(1, P)), seq(rz(1, P), ry(0, P), wx(1, P)))
	for _, c := range []struct {
		what string
		g    api.Graph
		want int
	}{
		{"IRIW", iriw(P, P), 0},
		{"IRIW, reads Acquire", iriw(P, A), arm.External},
		{"IRIW, reads AcquirePC", iriw(P, Q), arm.External},
		{"IRIW, writes Release", iriw(L, P), 0},
		{"IRIW, addr", withAddr(iriw(P, P), 4, 5, 6, 7), arm.External},
		{"IRIW, ctrl", withCtrl(iriw(P, P), 4, 5, 6, 7), 0},
		{"2+2W", twice(P, P), 0},
		{"2+2W, second writes Release", twice(P, L), arm.External},
		{"2+2W, first writes Release", twice(L, P), 0},
		{"WRC", wrc, 0},
		{"WRC, data and addr", withAddr(withData(wrc, 3, 4), 5, 6), arm.External},
		{"WRC, data and ctrl", withCtrl(withData(wrc, 3, 4), 5, 6), 0},
		{"ISA2, data and addr", withAddr(withData(isa2, 6, 7), 8, 9), arm.External},
		{"ISA2, data", withData(isa2, 6, 7), 0},
		{"S, Release and data", withData(s(L), 4, 5), arm.External},
		{"S, Release and ctrl", withCtrl(s(L), 4, 5), arm.External},
		{"S, Release", s(L), 0},
		{"S, data", withData(s(P), 4, 5), 0},
		{"R, fences Sy", r(Y, Y), arm.External},
		{"R, fences Sy and Ld", r(Y, D), 0},
		{"R, fences Ld and Sy", r(D, Y), 0},
		{"PPO, no dependency", ppo, 0},
		{"PPOCA", ppoca, 0},
		{"PPOAA", ppoaa, arm.External},
		{"PPODA", ppoda, arm.External},
		{"LB, addr and then a write", withAddr(ww, 3, 4, 6, 7), arm.External},
		{"LB, ctrl to a read and then a write", withCtrl(ww, 3, 4, 6, 7), 0},
	} {
		holdModel(t, c.what, c.g)
		if a := axiomOf(t, c.g); a != c.want {
			t.Errorf("P11.2: %s: %d; want %d", c.what, a, c.want)
		}
	}
}
