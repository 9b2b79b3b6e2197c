package dots_test

import (
	"fmt"
	"math"
	"testing"

	"sextant/api"
	"sextant/dots"
)

func pairs(l ...int) []api.Pair {
	var out []api.Pair
	for i := 0; i+1 < len(l); i += 2 {
		out = append(out, api.Pair{A: l[i], B: l[i+1]})
	}
	return out
}

func read(thread, loc int, val uint64, mode int) api.Event {
	return api.Event{Thread: thread, Kind: api.Read, Loc: loc, Val: val, Mode: mode}
}

func write(thread, loc int, val uint64, mode int) api.Event {
	return api.Event{Thread: thread, Kind: api.Write, Loc: loc, Val: val, Mode: mode}
}

func fence(thread, mode int) api.Event {
	return api.Event{Thread: thread, Kind: api.Fence, Loc: -1, Mode: mode}
}

// example is the chapter's G, with its text and its bytes.
func example() api.Graph {
	return api.Graph{
		Cells: 1, Rf: pairs(1, 2), Co: [][]int{{0, 1}},
		Events: []api.Event{write(-1, 0, 0, api.Rlx), write(0, 0, 7, api.SC), read(1, 0, 7, api.Acq), fence(1, api.AcqRel)},
	}
}

const exampleText = "graph 1\nevent - W 0 0 rlx\nevent 0 W 0 7 sc\nevent 1 R 0 7 acq\nevent 1 F - 0 acq_rel\nrf 1 2\nco 0 1\n"

func exampleBytes() []byte {
	return []byte{
		71, 0, 1, 0, 4,
		0, 2, 0, 1, 0, 0, 0, 0, 0, 0, 0, 0, 1,
		1, 2, 0, 1, 0, 0, 0, 0, 0, 0, 0, 7, 5,
		2, 1, 0, 1, 0, 0, 0, 0, 0, 0, 0, 7, 2,
		2, 3, 0, 0, 0, 0, 0, 0, 0, 0, 0, 0, 4,
		0, 1, 1, 2, 0, 0, 0, 0, 0, 0, 0, 0, 0, 1, 0, 2, 0, 1,
	}
}

// full is a graph with every list filled, with numbers that are of no event, an empty list in Co, every kind and every mode.
func full() api.Graph {
	return api.Graph{
		Cells: 256,
		Events: []api.Event{
			{Thread: 63, Kind: 1, Loc: 4095, Val: math.MaxUint64, Mode: 1}, {Thread: -1, Kind: 2, Loc: -1, Val: 0, Mode: 2},
			{Thread: 0, Kind: 3, Loc: 0, Val: 1, Mode: 3}, {Thread: 10, Kind: 1, Loc: 255, Val: 1 << 63, Mode: 4},
			{Thread: 9, Kind: 2, Loc: 256, Val: 0x0102030405060708, Mode: 5}, {Thread: 62, Kind: 3, Loc: 257, Val: 256, Mode: 11},
			{Thread: 1, Kind: 1, Loc: 511, Val: 18446744073709551609, Mode: 12}, {Thread: 63, Kind: 2, Loc: 4094, Val: 99, Mode: 13},
			{Thread: 0, Kind: 3, Loc: -1, Val: 100, Mode: 14}, {Thread: 0, Kind: 1, Loc: 9, Val: 10, Mode: 15},
			{Thread: -1, Kind: 2, Loc: 10, Val: 9, Mode: 16},
		},
		Rf:  pairs(255, 0, 0, 255, 12, 9),
		Co:  [][]int{{}, {255, 0, 10, 9, 255}, {7}, nil},
		Rmw: pairs(11, 12), Addr: pairs(3, 3, 3, 3), Data: pairs(1, 200), Ctrl: pairs(100, 99, 10, 0, 0, 10, 5, 6),
	}
}

// ofWords is a well-formed graph of the words, with all that such a graph may have.
func ofWords() api.Graph {
	return api.Graph{
		Cells: 2,
		Events: []api.Event{
			write(-1, 0, 0, api.Plain), write(-1, 1, 0, api.Plain),
			read(0, 0, 3, api.Acquire), read(1, 1, 4, api.AcquirePC), write(0, 0, 5, api.Release), write(1, 0, 3, api.Plain),
			fence(0, api.FenceSy), fence(1, api.FenceLd), write(0, 1, 4, api.Plain), read(1, 0, 0, api.Plain),
		},
		Rf: pairs(5, 2, 8, 3, 0, 9), Co: [][]int{{0, 5, 4}, {1, 8}},
		Rmw: pairs(2, 4), Addr: pairs(2, 8, 3, 5, 3, 9), Data: pairs(2, 4, 3, 5), Ctrl: pairs(2, 6, 2, 8, 3, 7, 3, 9),
	}
}

// byHand are plain graphs.
func byHand() []api.Graph {
	return []api.Graph{
		{}, {Cells: 256}, {Co: [][]int{nil, nil}}, {Ctrl: pairs(0, 0)}, {Rf: pairs(0, 255)},
		{Events: []api.Event{{Thread: -1, Kind: 1, Loc: -1, Mode: 1}}},
		example(), full(), ofWords(), largest(),
	}
}

// largest is a graph of MaxEvents events and of lists as long as they may be, that has a text still.
func largest() api.Graph {
	g := api.Graph{Cells: api.MaxEvents}
	all := make([]int, api.MaxEvents)
	for i := range all {
		g.Events = append(g.Events, api.Event{Thread: i%65 - 1, Kind: 1 + i%3, Loc: i*16 - 1, Val: uint64(i) << 56, Mode: allModes[i%11]})
		all[i] = 255 - i
	}
	g.Co = make([][]int, api.MaxCells)
	g.Co[0], g.Co[4095] = all, []int{255}
	for i := range 1000 {
		g.Data = append(g.Data, api.Pair{A: i % 256, B: i / 4})
	}
	return g
}

var allModes = []int{1, 2, 3, 4, 5, 11, 12, 13, 14, 15, 16}

func copyGraph(g api.Graph) api.Graph {
	out := api.Graph{
		Cells: g.Cells, Events: append([]api.Event(nil), g.Events...),
		Rf: copyPairs(g.Rf), Rmw: copyPairs(g.Rmw), Addr: copyPairs(g.Addr), Data: copyPairs(g.Data), Ctrl: copyPairs(g.Ctrl),
	}
	for _, l := range g.Co {
		out.Co = append(out.Co, append([]int(nil), l...))
	}
	return out
}

func copyPairs(l []api.Pair) []api.Pair { return append([]api.Pair(nil), l...) }

// lists are a graph's lists of pairs.
func lists(g *api.Graph) []*[]api.Pair {
	return []*[]api.Pair{&g.Rf, &g.Rmw, &g.Addr, &g.Data, &g.Ctrl}
}

// alike tells whether two graphs are the same; a list that is nil and an empty one are.
func alike(a, b api.Graph) bool { return fmt.Sprint(a) == fmt.Sprint(b) }

// empty tells whether a graph is the zero value.
func empty(g api.Graph) bool {
	return g.Cells == 0 && len(g.Events) == 0 && len(g.Rf) == 0 && len(g.Co) == 0 && len(g.Rmw) == 0 && len(g.Addr) == 0 && len(g.Data) == 0 && len(g.Ctrl) == 0
}

func mustPut(t *testing.T, g api.Graph) []byte {
	t.Helper()
	b, e := dots.Put(g)
	if e != api.OK {
		t.Fatalf("P9.1: Put: %v: %+v", e, g)
	}
	return b
}

func mustText(t *testing.T, g api.Graph) string {
	t.Helper()
	s, e := dots.Text(g)
	if e != api.OK {
		t.Fatalf("P9.1: Text: %v: %+v", e, g)
	}
	return s
}

func mustCanon(t *testing.T, g api.Graph) api.Graph {
	t.Helper()
	h, e := dots.Canon(g)
	if e != api.OK {
		t.Fatalf("P9.4: Canon: %v: %+v", e, g)
	}
	return h
}

// dice gives numbers from 0 to n - 1 that look like chance and are the same in each run.
func dice(seed uint64) func(n int) int {
	return func(n int) int {
		seed += 0x9e3779b97f4a7c15
		z := (seed ^ seed>>30) * 0xbf58476d1ce4e5b9
		z = (z ^ z>>27) * 0x94d049bb133111eb
		return int((z ^ z>>31) % uint64(n))
	}
}

// far are numbers at and beyond the edges.
var far = []int{math.MinInt, math.MinInt32, -65537, -257, -2, -1, 0, 1, 2, 3, 4, 5, 6, 10, 11, 16, 17, 62, 63, 64, 65, 254, 255, 256, 257, 4095, 4096, 4097, 65535, 65536, 1 << 31, 1 << 32, math.MaxInt - 1, math.MaxInt}

// fields are all numbers of a graph but its values.
func fields(g *api.Graph) []*int {
	out := []*int{&g.Cells}
	for i := range g.Events {
		e := &g.Events[i]
		out = append(out, &e.Thread, &e.Kind, &e.Loc, &e.Mode)
	}
	for _, l := range lists(g) {
		for i := range *l {
			out = append(out, &(*l)[i].A, &(*l)[i].B)
		}
	}
	for _, l := range g.Co {
		for i := range l {
			out = append(out, &l[i])
		}
	}
	return out
}
