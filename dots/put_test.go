package dots_test

import (
	"bytes"
	"fmt"
	"math"
	"strings"
	"testing"

	"sextant/api"
	"sextant/dots"
)

func TestP9_1Examples(t *testing.T) {
	if s, e := dots.Text(example()); e != api.OK || s != exampleText {
		t.Errorf("P9.1: Text is %q, %v", s, e)
	}
	if b, e := dots.Put(example()); e != api.OK || !bytes.Equal(b, exampleBytes()) {
		t.Errorf("P9.1: Put is % d, %v", b, e)
	}
	none := []byte{71, 0, 0, 0, 0, 0, 0, 0, 0, 0, 0, 0, 0, 0, 0, 0, 0}
	if b, e := dots.Put(api.Graph{}); e != api.OK || !bytes.Equal(b, none) {
		t.Errorf("P9.1: Put of no event and no cell is % d, %v", b, e)
	}
	if s, e := dots.Text(api.Graph{}); e != api.OK || s != "graph 0\n" {
		t.Errorf("P9.1: Text of no event and no cell is %q, %v", s, e)
	}
}

// A graph with all that one may have, told by hand.
func TestP9_1Full(t *testing.T) {
	g := api.Graph{
		Cells: 256,
		Events: []api.Event{
			{Thread: 63, Kind: api.Read, Loc: 4095, Val: math.MaxUint64, Mode: api.AcquirePC},
			{Thread: -1, Kind: api.Fence, Loc: -1, Val: 0x0102030405060708, Mode: api.FenceSy},
		},
		Rf: pairs(255, 0), Rmw: pairs(1, 2), Addr: pairs(3, 4, 3, 4), Data: pairs(5, 6), Ctrl: pairs(10, 9),
		Co: [][]int{nil, {255, 7, 255}},
	}
	text := "graph 256\nevent 63 R 4095 18446744073709551615 acquirepc\nevent - F - 72623859790382856 sy\n" +
		"rf 255 0\nco\nco 255 7 255\nrmw 1 2\naddr 3 4\naddr 3 4\ndata 5 6\nctrl 10 9\n"
	want := []byte{
		71, 1, 0, 0, 2,
		64, 1, 16, 0, 255, 255, 255, 255, 255, 255, 255, 255, 16,
		0, 3, 0, 0, 1, 2, 3, 4, 5, 6, 7, 8, 15,
		0, 1, 255, 0, 0, 1, 1, 2, 0, 2, 3, 4, 3, 4, 0, 1, 5, 6, 0, 1, 10, 9,
		0, 2, 0, 0, 0, 3, 255, 7, 255,
	}
	if s := mustText(t, g); s != text {
		t.Errorf("P9.1: Text is %q", s)
	}
	if b := mustPut(t, g); !bytes.Equal(b, want) {
		t.Errorf("P9.1: Put is % d", b)
	}
	if h, at, e := dots.Get(want); e != api.OK || at != 0 || !alike(h, g) {
		t.Errorf("P9.2: Get is %+v, %d, %v", h, at, e)
	}
	if h, line, e := dots.Parse(text); e != api.OK || line != 0 || !alike(h, g) {
		t.Errorf("P9.3: Parse is %+v, %d, %v", h, line, e)
	}
}

// Each kind and each mode has the number and the name that DOC.md gives it.
func TestP9_1Names(t *testing.T) {
	for kind := 1; kind <= 3; kind++ {
		for i, mode := range allModes {
			g := api.Graph{Events: []api.Event{{Kind: kind, Mode: mode}}}
			name := strings.Fields("rlx acq rel acq_rel sc plain acquire release ld sy acquirepc")[i]
			want := "graph 0\nevent 0 " + string("RWF"[kind-1]) + " 0 0 " + name + "\n"
			if s := mustText(t, g); s != want {
				t.Errorf("P9.1: kind %d, mode %d: %q", kind, mode, s)
			}
			if b := mustPut(t, g); b[6] != byte(kind) || b[17] != byte(mode) {
				t.Errorf("P9.1: kind %d, mode %d: % d", kind, mode, b)
			}
		}
	}
}

func TestP9_1AsTheModel(t *testing.T) {
	for i, g := range some(3000) {
		if b := mustPut(t, g); !bytes.Equal(b, modelPut(g)) {
			t.Fatalf("P9.1: case %d: Put is % d; want % d", i, b, modelPut(g))
		}
		if s := mustText(t, g); s != modelText(g) {
			t.Fatalf("P9.1: case %d: Text is %q; want %q", i, s, modelText(g))
		}
	}
}

// holdPlain holds what the three calls say of a graph against whether it is plain.
func holdPlain(t *testing.T, what string, g api.Graph, isPlain bool) {
	t.Helper()
	b, e := dots.Put(g)
	s, f := dots.Text(g)
	h, k := dots.Canon(g)
	if !isPlain {
		if e != api.EARG || f != api.EARG || k != api.EARG || len(b) != 0 || s != "" || !empty(h) {
			t.Errorf("P9.1, P9.4: %s: %v, %v, %v; %d bytes, %q, %+v; want EARG and nothing", what, e, f, k, len(b), s, h)
		}
		return
	}
	if e != api.OK || !bytes.Equal(b, modelPut(g)) {
		t.Errorf("P9.1: %s: Put: %v", what, e)
	}
	if long := len(modelText(g)) > 65536; !long && (f != api.OK || s != modelText(g)) || long && (f != api.ELIMIT || s != "") {
		t.Errorf("P9.1: %s: Text: %v, %d bytes", what, f, len(s))
	}
	if in := inside(g); in && k != api.OK || !in && (k != api.EGRAPH || !empty(h)) {
		t.Errorf("P9.4: %s: Canon: %v, %+v", what, k, h)
	}
}

// Every number of a graph but its values at and beyond the edges.
func TestP9_1EachNumber(t *testing.T) {
	refused := 0
	for _, g := range []api.Graph{example(), full(), ofWords()} {
		for i := range fields(&g) {
			for _, n := range far {
				h := copyGraph(g)
				*fields(&h)[i] = n
				holdPlain(t, fmt.Sprintf("the number %d is %d", i, n), h, plain(h))
				if !plain(h) {
					refused++
				}
			}
		}
	}
	if refused < 1000 {
		t.Errorf("not all is tried: %d", refused)
	}
}

// The edges by name.
func TestP9_1Edges(t *testing.T) {
	event := func(f func(e *api.Event)) func(g *api.Graph) {
		return func(g *api.Graph) { f(&g.Events[1]) }
	}
	edge := func(is bool, what string, turn func(g *api.Graph)) {
		t.Helper()
		g := example()
		turn(&g)
		if plain(g) != is {
			t.Errorf("the model: %s", what)
		}
		holdPlain(t, what, g, is)
	}
	for n, is := range map[int]bool{-1: false, 0: true, 256: true, 257: false} {
		edge(is, fmt.Sprint("Cells ", n), func(g *api.Graph) { g.Cells = n })
	}
	for n, is := range map[int]bool{-2: false, -1: true, 63: true, 64: false} {
		edge(is, fmt.Sprint("Thread ", n), event(func(e *api.Event) { e.Thread = n }))
	}
	for n, is := range map[int]bool{0: false, 1: true, 2: true, 3: true, 4: false} {
		edge(is, fmt.Sprint("Kind ", n), event(func(e *api.Event) { e.Kind = n }))
	}
	for n, is := range map[int]bool{-2: false, -1: true, 4095: true, 4096: false} {
		edge(is, fmt.Sprint("Loc ", n), event(func(e *api.Event) { e.Loc = n }))
	}
	for n := -1; n < 300; n++ {
		is := 1 <= n && n <= 5 || 11 <= n && n <= 16
		edge(is, fmt.Sprint("Mode ", n), event(func(e *api.Event) { e.Mode = n }))
	}
	for _, v := range []uint64{0, 1, math.MaxInt64, 1 << 63, math.MaxUint64} {
		edge(true, fmt.Sprint("Val ", v), event(func(e *api.Event) { e.Val = v }))
	}
	for n, is := range map[int]bool{-1: false, 0: true, 255: true, 256: false} {
		for k := range 5 {
			edge(is, fmt.Sprint("A ", n, " of the list ", k), func(g *api.Graph) { *lists(g)[k] = pairs(n, 0) })
			edge(is, fmt.Sprint("B ", n, " of the list ", k), func(g *api.Graph) { *lists(g)[k] = pairs(0, 0, 0, n) })
		}
		edge(is, fmt.Sprint("Co of ", n), func(g *api.Graph) { g.Co = [][]int{nil, {0, n}} })
	}
}

// Lists as long as they may be, and longer by one.
func TestP9_1LongLists(t *testing.T) {
	holdPlain(t, "256 events", api.Graph{Events: largest().Events}, true)
	holdPlain(t, "257 events", api.Graph{Events: append(largest().Events, fence(0, api.SC))}, false)
	holdPlain(t, "the largest", largest(), true)
	for k := range 5 {
		for n, is := range map[int]bool{65535: true, 65536: false} {
			g := example()
			*lists(&g)[k] = make([]api.Pair, n)
			holdPlain(t, fmt.Sprint(n, " pairs of the list ", k), g, is)
		}
	}
	for n, is := range map[int]bool{4096: true, 4097: false} {
		g := example()
		g.Co = make([][]int, n)
		holdPlain(t, fmt.Sprint(n, " lists"), g, is)
	}
	for n, is := range map[int]bool{256: true, 257: false} {
		for k := range 2 {
			g := example()
			g.Co = [][]int{{1}, {1}}
			g.Co[k] = make([]int, n)
			holdPlain(t, fmt.Sprint(n, " numbers of the list ", k), g, is)
		}
	}
	g := example()
	g.Co = make([][]int, 4096)
	for c := range g.Co {
		g.Co[c] = make([]int, 256)
	}
	for _, l := range lists(&g) {
		*l = make([]api.Pair, 65535)
	}
	holdPlain(t, "all lists as long as they may be", g, true)
	g.Co[4095][255] = 256
	holdPlain(t, "and one number that may not be", g, false)
}

// ofLength is a graph whose text has that many bytes, at least 50.
func ofLength(n int) api.Graph {
	g := api.Graph{Rf: make([]api.Pair, (n-8)/7)}
	for i := range (n - 8) % 7 {
		g.Rf[i].A = 10
	}
	return g
}

func TestP9_1TextLimit(t *testing.T) {
	for n := 65536 - 20; n <= 65536+20; n++ {
		g := ofLength(n)
		if len(modelText(g)) != n {
			t.Fatalf("the model: %d bytes", len(modelText(g)))
		}
		s, e := dots.Text(g)
		if n <= 65536 && (e != api.OK || s != modelText(g)) || n > 65536 && (e != api.ELIMIT || s != "") {
			t.Errorf("P9.1: Text of %d bytes: %v, %d bytes", n, e, len(s))
		}
		if b, e := dots.Put(g); e != api.OK || len(b) != 17+2*len(g.Rf) {
			t.Errorf("P9.1: Put beside a text of %d bytes: %v", n, e)
		}
	}
	g := ofLength(65537)
	g.Rf[9000].B = 256
	if s, e := dots.Text(g); e != api.EARG || s != "" {
		t.Errorf("P9.1: not plain, and too long: %v", e)
	}
}

// Graphs of any numbers.
func TestP9_1Wild(t *testing.T) {
	got := map[bool]int{}
	for i := range 20000 {
		g := wild(dice(uint64(i)))
		holdPlain(t, fmt.Sprint("wild graph ", i), g, plain(g))
		got[plain(g)]++
	}
	if got[false] < 300 || got[true] < 300 {
		t.Errorf("not all is tried: %v", got)
	}
}
