package arm_test

import (
	"slices"
	"testing"

	"sextant/api"
)

// holdOrders holds Dob, Aob and Bob of a graph against all of their pairs.
func holdOrders(t *testing.T, what string, g api.Graph, dob, aob, bob []api.Pair) {
	t.Helper()
	f := derived(t, g)
	for i, want := range [][]api.Pair{nil, dob, aob, bob} {
		if got := relations(f)[i].Pairs(); i > 0 && !slices.Equal(got, want) {
			t.Errorf("P11.1: %s: %s is %v; want %v", what, relationNames[i], got, want)
		}
	}
}

// wz and rz are of a third cell.
func wz(val uint64, mode int) api.Event { return write(0, 2, val, mode) }
func rz(val uint64, mode int) api.Event { return read(0, 2, val, mode) }

// one is a graph of three cells and of one thread, whose events begin with 3; beside: of a second thread.
func one(l ...api.Event) api.Graph { return ofCells(3, l) }

func beside(g api.Graph, l ...api.Event) api.Graph {
	g.Events = append(slices.Clone(g.Events), in(1, slices.Clone(l)...)...)
	return byValues(g)
}

// Each clause of dob by itself, and beside it what just fails.
func TestP11_1ClausesOfDob(t *testing.T) {
	dob := func(what string, g api.Graph, l ...int) {
		t.Helper()
		holdOrders(t, what, g, pairs(l...), nil, nil)
	}
	dob("addr to a read", withAddr(one(rx(0, P), ry(0, P)), 3, 4), 3, 4)
	dob("addr to a write", withAddr(one(rx(0, P), wy(1, P)), 3, 4), 3, 4)
	dob("no addr", one(rx(0, P), ry(0, P)))

	dob("data", withData(one(rx(0, P), wy(1, P)), 3, 4), 3, 4)
	dob("no data", one(rx(0, P), wy(1, P)))

	dob("ctrl to a write", withCtrl(one(rx(0, P), wy(1, P)), 3, 4), 3, 4)
	dob("ctrl to a write further on", withCtrl(one(rx(0, P), ry(0, P), wz(1, P)), 3, 5), 3, 5)
	dob("ctrl to a read", withCtrl(one(rx(0, P), ry(0, P)), 3, 4))
	dob("ctrl to a fence", withCtrl(one(rx(0, P), ff(D)), 3, 4))
	dob("ctrl to a fence Sy", withCtrl(one(rx(0, P), ff(Y)), 3, 4))
	dob("ctrl to a read ahead of a write", withCtrl(one(rx(0, P), ry(0, P), wz(1, P)), 3, 4))

	dob("addr and then a write", withAddr(one(rx(0, P), ry(0, P), wz(1, P)), 3, 4), 3, 4, 3, 5)
	dob("addr to a write and then a write", withAddr(one(rx(0, P), wy(1, P), wz(1, P)), 3, 4), 3, 4, 3, 5)
	dob("addr and then a read", withAddr(one(rx(0, P), ry(0, P), rz(0, P)), 3, 4), 3, 4)
	dob("a write, and addr behind it", withAddr(one(rx(0, P), wz(1, P), ry(0, P)), 3, 5), 3, 5)
	dob("data and then a write", withData(one(rx(0, P), wy(1, P), wz(1, P)), 3, 4), 3, 4)
	dob("addr and a write of another thread", beside(withAddr(one(rx(0, P), ry(0, P)), 3, 4), wz(1, P)), 3, 4)

	twice := one(rx(0, P), wy(1, P), wy(2, P))
	dob("data and coi", withData(twice, 3, 4), 3, 4, 3, 5)
	dob("ctrl and coi", withCtrl(twice, 3, 4), 3, 4, 3, 5)
	dob("data and coi of two more", withData(one(rx(0, P), wy(1, P), wy(2, P), rz(0, P), wy(3, P)), 3, 4), 3, 4, 3, 5, 3, 7)
	dob("data to the last one", withData(twice, 3, 5), 3, 5)
	dob("data and another cell's write", withData(one(rx(0, P), wy(1, P), wz(2, P)), 3, 4), 3, 4)
	dob("data and coe", withData(beside(one(rx(0, P), wy(1, P)), wy(2, P)), 3, 4), 3, 4)
	dob("ctrl and coe", withCtrl(beside(one(rx(0, P), wy(1, P)), wy(2, P)), 3, 4), 3, 4)
	dob("data and a write that is ahead in co", withData(withCo(one(rx(0, P), wy(1, P), wy(2, P)), 1, 1, 5, 4), 3, 4), 3, 4)

	back := one(rx(0, P), wy(1, P), ry(1, P))
	dob("data and rfi", withData(back, 3, 4), 3, 4, 3, 5)
	dob("addr and rfi", withAddr(back, 3, 4), 3, 4, 3, 5)
	dob("ctrl and rfi", withCtrl(back, 3, 4), 3, 4)
	dob("data and a read of the initial write", withData(one(rx(0, P), wy(1, P), ry(0, P)), 3, 4), 3, 4)
	dob("data and rfe", withData(beside(one(rx(0, P), wy(1, P)), ry(1, P)), 3, 4), 3, 4)
	dob("addr and rfe", withAddr(beside(one(rx(0, P), wy(1, P)), ry(1, P)), 3, 4), 3, 4)
	dob("addr and fr", withAddr(beside(one(rx(0, P), ry(0, P)), wy(1, P)), 3, 4), 3, 4)
	dob("one that is read back and then overwritten", withData(one(rx(0, P), wy(1, P), ry(1, P), wy(2, P)), 3, 4), 3, 4, 3, 5, 3, 6)
}

// Each clause of aob by itself, and beside it what just fails.
func TestP11_1ClausesOfAob(t *testing.T) {
	aob := func(what string, g api.Graph, l ...int) {
		t.Helper()
		holdOrders(t, what, g, nil, pairs(l...), nil)
	}
	aob("rmw", withRmw(one(rx(0, P), wx(1, P)), 3, 4), 3, 4)
	aob("no rmw", one(rx(0, P), wx(1, P)))

	for _, m := range []int{A, Q} {
		pair := one(rx(0, P), wx(1, P), rx(1, m))
		aob("a pair that is read back", withRmw(pair, 3, 4), 3, 4, 4, 5)
		aob("no pair, read back", withRmw(pair))
		aob("a pair, and a read of the initial write", withRmw(one(rx(0, P), wx(1, P), rx(0, m)), 3, 4), 3, 4)
		aob("a pair that another thread reads", withRmw(beside(one(rx(0, P), wx(1, P)), rx(1, m)), 3, 4), 3, 4)
		aob("a pair, and a later write that is read back", withRmw(one(rx(0, P), wx(1, P), wx(2, P), rx(2, m)), 3, 4), 3, 4)
		aob("two that read it back", withRmw(one(rx(0, P), wx(1, P), rx(1, P), rx(1, m)), 3, 4), 3, 4, 4, 6)
		// The write of one pair is read by the read of the next one.
		next := withRmw(one(rx(0, P), wx(1, P), rx(1, m), wx(2, P)), 3, 4, 5, 6)
		holdOrders(t, "a pair behind a pair", next, nil, pairs(3, 4, 4, 5, 5, 6), pairs(5, 6))
	}
	aob("a pair that a plain read reads back", withRmw(one(rx(0, P), wx(1, P), rx(1, P)), 3, 4), 3, 4)
}

// Each clause of bob by itself, and beside it what just fails.
func TestP11_1ClausesOfBob(t *testing.T) {
	bob := func(what string, g api.Graph, l ...int) {
		t.Helper()
		holdOrders(t, what, g, nil, nil, pairs(l...))
	}
	for _, a := range []api.Event{rx(0, P), wx(1, P)} {
		for _, b := range []api.Event{ry(0, P), wy(1, P)} {
			bob("across Sy", one(a, ff(Y), b), 3, 5)
			bob("ahead of Sy", one(a, b, ff(Y)))
			bob("behind Sy", one(ff(Y), a, b))
			bob("Sy of another thread", beside(one(a, b), ff(Y)))
			if a.Kind == api.Read {
				bob("a read across Ld", one(a, ff(D), b), 3, 5)
			} else {
				bob("a write across Ld", one(a, ff(D), b))
			}
			bob("ahead of Ld", one(a, b, ff(D)))
			bob("behind Ld", one(ff(D), a, b))
		}
	}
	bob("Sy of others", beside(one(rx(0, P), ff(Y)), wy(1, P)))
	bob("all ahead of Sy, and all behind it", one(rx(0, P), wx(1, P), ff(Y), ry(0, P), wz(1, P)), 3, 6, 3, 7, 4, 6, 4, 7)
	bob("the reads ahead of Ld, and all behind it", one(rx(0, P), wx(1, P), ff(D), ry(0, P), wz(1, P)), 3, 6, 3, 7)
	bob("a fence across a fence Sy", one(ff(D), ff(Y), rx(0, P)), 3, 5)
	bob("a fence across a fence Ld", one(ff(Y), ff(D), rx(0, P)))

	bob("L and then A", one(wx(1, L), ry(0, A)), 3, 4)
	bob("L and A further on", one(wx(1, L), rz(0, P), ry(0, A)), 3, 5)
	bob("L and then Q", one(wx(1, L), ry(0, Q)))
	bob("L and then a plain read", one(wx(1, L), ry(0, P)))
	bob("a plain write and then A", one(wx(1, P), ry(0, A)))
	bob("L, and A of another thread", beside(one(wx(1, L)), ry(0, A)))
	bob("A and then L", one(ry(0, A), wx(1, L)), 3, 4)

	for _, m := range []int{A, Q} {
		bob("behind A or Q", one(rx(0, m), ry(0, P), wz(1, P)), 3, 4, 3, 5)
		bob("a fence behind A or Q", one(rx(0, m), ff(D)), 3, 4)
		bob("ahead of A or Q", one(ry(0, P), wz(1, P), rx(0, m)))
		bob("A or Q of another thread", beside(one(ry(0, P), wz(1, P)), rx(0, m)))
	}
	bob("behind a plain read", one(rx(0, P), ry(0, P), wz(1, P)))

	bob("ahead of L", one(rx(0, P), wz(1, P), wy(1, L)), 3, 5, 4, 5)
	bob("a fence ahead of L", one(ff(D), wy(1, L)), 3, 4)
	bob("behind L", one(wy(1, L), rx(0, P), wz(1, P)))
	bob("L of another thread", beside(one(rx(0, P), wz(1, P)), wy(1, L)))
	bob("ahead of a plain write", one(rx(0, P), wz(1, P), wy(1, P)))

	bob("ahead of L and of what overwrites it", one(rx(0, P), wy(1, L), wy(2, P)), 3, 4, 3, 5)
	bob("L and what overwrites it", one(wy(1, L), wy(2, P)))
	bob("another cell's write behind L", one(rx(0, P), wy(1, L), wz(2, P)), 3, 4)
	bob("a plain write and what overwrites it", one(rx(0, P), wy(1, P), wy(2, P)))
	bob("L that another thread overwrites", beside(one(rx(0, P), wy(1, L)), wy(2, P)), 3, 4)
	bob("a write behind L that is ahead of it in co", withCo(one(rx(0, P), wy(1, L), wy(2, P)), 1, 1, 5, 4), 3, 4)
	bob("a write between the two", one(wy(1, L), rx(0, P), wy(2, P)))
}

// The initial writes are in no po, and are of one thread: what other threads observe of them is obs alone.
func TestP11_1InitialWrites(t *testing.T) {
	f := derived(t, one(rx(0, A), wx(1, L), rx(1, P)))
	holdPairs(t, "Obs", f.Obs, 0, 3, 0, 4)
	holdPairs(t, "Bob", f.Bob, 3, 4, 3, 5)
	f = derived(t, beside(one(wx(1, P), rx(1, P), wx(2, P)), rx(2, P), rx(0, P), wx(3, P)))
	// Within the thread 0 are (3, 4), (3, 5) and (4, 5), within the thread 1 (6, 8) and (7, 8).
	holdPairs(t, "Obs", f.Obs, 0, 3, 0, 5, 0, 7, 0, 8, 3, 8, 4, 8, 5, 6, 5, 8, 7, 3, 7, 5)
}
