package dots_test

import (
	"math"
	"testing"

	"sextant/api"
)

// made is a plain graph, whose numbers in pairs and in Co are those of its events, if inside.
func made(roll func(n int) int, inside bool) api.Graph {
	g := api.Graph{Cells: []int{0, 1, roll(257), 256}[roll(4)]}
	for range roll(8) {
		g.Events = append(g.Events, madeEvent(roll))
	}
	n := 256
	if inside {
		n = len(g.Events)
	}
	point := func() int { return []int{roll(n), n - 1, min(roll(4), n-1)}[roll(3)] }
	for _, l := range lists(&g) {
		for range roll(5) {
			if n > 0 {
				*l = append(*l, api.Pair{A: point(), B: point()})
			}
		}
	}
	for range roll(4) {
		var l []int
		for range roll(4) {
			if n > 0 {
				l = append(l, point())
			}
		}
		g.Co = append(g.Co, l)
	}
	return g
}

func madeEvent(roll func(n int) int) api.Event {
	return api.Event{
		Thread: []int{-1, 0, roll(65) - 1, roll(3), 63}[roll(5)],
		Kind:   1 + roll(3),
		Loc:    []int{-1, 0, roll(4097) - 1, 4095}[roll(4)],
		Val:    []uint64{0, 1, uint64(roll(math.MaxInt)) * 3, math.MaxUint64}[roll(4)],
		Mode:   allModes[roll(11)],
	}
}

// wild is a graph of any numbers.
func wild(roll func(n int) int) api.Graph {
	number := func() int { return []int{far[roll(len(far))], roll(6) - 1, 1 + roll(3)}[roll(3)] }
	g := api.Graph{Cells: number()}
	for range roll(4) {
		g.Events = append(g.Events, api.Event{Thread: number(), Kind: number(), Loc: number(), Val: uint64(number()), Mode: number()})
	}
	for _, l := range lists(&g) {
		for range roll(3) {
			*l = append(*l, api.Pair{A: number(), B: number()})
		}
	}
	for range roll(3) {
		var l []int
		for range roll(3) {
			l = append(l, number())
		}
		g.Co = append(g.Co, l)
	}
	return g
}

// some are plain graphs of all sorts.
func some(count int) []api.Graph {
	out := byHand()
	for i := range count {
		out = append(out, made(dice(uint64(i)), i%2 == 0))
	}
	return out
}

// What is tried has of all that a plain graph may have.
func TestMadeGraphs(t *testing.T) {
	got := map[string]int{}
	for i := range 600 {
		g := made(dice(uint64(i)), i%2 == 0)
		if !plain(g) {
			t.Fatalf("not plain: %+v", g)
		}
		for k, l := range lists(&g) {
			if len(*l) > 2 {
				got[string("frADC"[k])]++
			}
		}
		for _, l := range g.Co {
			if len(l) == 0 {
				got["empty lists"]++
			}
		}
		for _, e := range g.Events {
			got["kind "+string(rune('0'+e.Kind))]++
			got["mode "+string(rune('a'+e.Mode))]++
		}
		if inside(g) {
			got["inside"]++
		} else {
			got["outside"]++
		}
	}
	for _, what := range []string{"f", "r", "A", "D", "C", "empty lists", "kind 1", "kind 2", "kind 3", "mode b", "mode f", "mode l", "mode q", "inside", "outside"} {
		if got[what] < 40 {
			t.Errorf("not all is tried: %s: %d", what, got[what])
		}
	}
}
