package check_test

import (
	"fmt"
	"strings"
	"testing"

	"sextant/api"
)

func TestP7_1Examples(t *testing.T) {
	for _, c := range []struct {
		text string
		code api.Errno
		col  int
	}{
		{"shared x; shared y, x;", api.ETWICE, 21},
		{"shared a[3];", api.EARRAY, 8},
		{"shared a[0];", api.EARRAY, 8},
		{"shared a[2048];", api.EARRAY, 8},
		{"thread { x = 1; }", api.ENAME, 10},
		{"thread { let x = x; }", api.ENAME, 18},
		{"shared x; thread { let x = 1; }", api.ETWICE, 20},
		{"shared x; thread { let r = load(x, rel); }", api.EMODE, 36},
		{"shared x; thread { store(x, 1, acq); }", api.EMODE, 32},
		{"shared a[2]; thread { let r = load(a, sc); }", api.ENAME, 36},
		{"shared x; thread { print(x); }", api.ENAME, 26},
	} {
		refused(t, c.text, c.code, 1, c.col)
	}
}

// What lang.Whole refuses is not looked at.
func TestP7_1NotWhole(t *testing.T) {
	want := api.Fault{Code: api.EARG}
	print1 := api.Stmt{Kind: api.SPrint, Args: []api.Expr{num(1)}, Line: 3, Col: 4}
	twice := []api.Shared{{Name: "x", Line: 1, Col: 2}, {Name: "x", Size: 3, Line: 1, Col: 3}}
	for i, x := range []api.Tree{
		{Shared: []api.Shared{{Name: "1", Line: 1, Col: 1}}}, {Shared: []api.Shared{{Name: "", Line: 1, Col: 1}}}, {Shared: []api.Shared{{Name: "x", Size: -2, Line: 1, Col: 1}}}, {Shared: []api.Shared{{Name: "x", Size: 1<<31 + 1, Line: 1, Col: 1}}},
		{Shared: append(append([]api.Shared(nil), twice...), api.Shared{Name: "sc"})},
		thread(api.Stmt{}), thread(print1, api.Stmt{Kind: 11}), thread(print1, api.Stmt{Kind: api.SPrint}),
		thread(api.Stmt{Kind: api.SPrint, Args: []api.Expr{{Op: api.OpNum, Val: 1, Name: "x"}}}),
		thread(api.Stmt{Kind: api.SPrint, Args: []api.Expr{one(api.OpAdd, num(1))}}),
		thread(api.Stmt{Kind: api.SPrint, Args: []api.Expr{{Op: 99}}}),
		thread(api.Stmt{Kind: api.SLoad, Name: "r", Place: api.Place{Name: "x"}}),
		thread(api.Stmt{Kind: api.SLoad, Place: api.Place{Name: "x"}, Mode: api.SC}),
		thread(api.Stmt{Kind: api.SLoad, Name: "r", Mode: api.SC}),
		thread(api.Stmt{Kind: api.SLoad, Name: "r", Place: api.Place{Name: "x", Index: []api.Expr{num(1), num(1)}}, Mode: api.SC}),
		thread(api.Stmt{Kind: api.SSet, Name: "r", Args: []api.Expr{local("q"), local("q")}}),
		thread(api.Stmt{Kind: api.SWhile, Args: []api.Expr{local("q")}, Else: []api.Stmt{print1}}),
		thread(api.Stmt{Kind: api.SFence, Mode: 6, MLine: 5, MCol: 5}),
		{Shared: twice, Threads: append(make([][]api.Stmt, 70), []api.Stmt{{}}), Places: make([]api.Pair, 70)},
	} {
		refusedTree(t, fmt.Sprint("case ", i), x, want)
	}
}

// All sizes near those that there may be, and some far away.
func TestP7_1Sizes(t *testing.T) {
	sizes := []int{-1, 4096, 8192, 65536, 1 << 20, 1 << 30, 1<<31 - 1, 1 << 31}
	for n := range 2100 {
		sizes = append(sizes, n)
	}
	right := map[int]bool{0: true, 1: true, 2: true, 4: true, 8: true, 16: true, 32: true, 64: true, 128: true, 256: true, 512: true, 1024: true}
	for _, n := range sizes {
		x := api.Tree{Shared: []api.Shared{{Name: "x"}, {Name: "a", Size: n, Line: 7, Col: n}, {Name: "y"}}}
		if !right[n] {
			refusedTree(t, fmt.Sprint("size ", n), x, api.Fault{Code: api.EARRAY, Line: 7, Col: n})
		} else if p := taken(t, x); p.Cells != 2+max(n, 1) {
			t.Errorf("P7.2: size %d: %d cells", n, p.Cells)
		}
	}
}

// sizesOf declares names of these sizes; each has its number as its line.
func sizesOf(sizes ...int) api.Tree {
	var x api.Tree
	for i, n := range sizes {
		x.Shared = append(x.Shared, api.Shared{Name: fmt.Sprint("a", i), Size: n, Line: i, Col: 1})
	}
	return x
}

func repeat(n, times int) []int {
	var out []int
	for range times {
		out = append(out, n)
	}
	return out
}

func TestP7_1Cells(t *testing.T) {
	refused(t, "shared a[1024], b[1024], c[1024], d[1024], e;", api.ECELLS, 1, 44)
	for _, l := range [][]int{repeat(1024, 4), repeat(0, 4096), repeat(1, 4096), repeat(2, 2048), repeat(64, 64), {1024, 512, 256, 128, 64, 32, 16, 8, 4, 2, 1, 0, 1024, 1024}, append(repeat(1024, 3), repeat(0, 1024)...)} {
		if p := taken(t, sizesOf(l...)); p.Cells != api.MaxCells {
			t.Errorf("P7.2: %d cells of %d declarations", p.Cells, len(l))
		}
		for _, more := range []int{0, 1, 2, 1024} {
			x := sizesOf(append(append([]int(nil), l...), more, 0)...)
			refusedTree(t, fmt.Sprint(len(l), " declarations, and one of ", more), x, api.Fault{Code: api.ECELLS, Line: len(l), Col: 1})
		}
	}
	refusedTree(t, "one cell too many for the last", sizesOf(0, 1024, 1024, 1024, 1024), api.Fault{Code: api.ECELLS, Line: 4, Col: 1})
	refusedTree(t, "too many in the middle", sizesOf(1024, 1024, 1024, 512, 1024, 0), api.Fault{Code: api.ECELLS, Line: 4, Col: 1})
}

// Of one declaration: twice, then its size, then the cells.
func TestP7_1OneDeclaration(t *testing.T) {
	full := "shared a[1024], b[1024], c[1024], d[1024]; shared "
	refused(t, full+"a[3];", api.ETWICE, 1, 51)
	refused(t, full+"a;", api.ETWICE, 1, 51)
	refused(t, full+"e[3];", api.EARRAY, 1, 51)
	refused(t, full+"e[2048];", api.EARRAY, 1, 51)
	refused(t, full+"e[0];", api.EARRAY, 1, 51)
	refused(t, full+"e[2];", api.ECELLS, 1, 51)
	refused(t, "shared x, x[5];", api.ETWICE, 1, 11)
	refused(t, "shared x[4], x[4];", api.ETWICE, 1, 14)
	refused(t, "shared x[5], x[5];", api.EARRAY, 1, 8)
	refused(t, "shared x;\nshared y,\n  x;", api.ETWICE, 3, 3)
}

// threads is a tree with so many, and so many places.
func threads(n, places int) api.Tree {
	x := api.Tree{Threads: make([][]api.Stmt, n)}
	for i := range places {
		x.Places = append(x.Places, api.Pair{A: 100 + i, B: 900 - i})
	}
	return x
}

func TestP7_1Threads(t *testing.T) {
	for _, places := range []int{0, 1, 64, 65, 70} {
		for _, n := range []int{0, 1, 63, 64} {
			if p := taken(t, threads(n, places)); len(p.Threads) != n {
				t.Errorf("P7.2: %d threads of %d", len(p.Threads), n)
			}
		}
		want := api.Fault{Code: api.ETHREADS}
		if places > 64 {
			want = api.Fault{Code: api.ETHREADS, Line: 164, Col: 836}
		}
		for _, n := range []int{65, 66, 200} {
			refusedTree(t, fmt.Sprint(n, " threads with ", places, " places"), threads(n, places), want)
		}
	}
	refused(t, strings.Repeat("thread { }\n", 64)+"  thread { x = y; }", api.ETHREADS, 65, 3)
	refused(t, "thread { x = y; }\n"+strings.Repeat("thread { }\n", 70), api.ETHREADS, 65, 1)
}

// lets declares so many locals, l0 and so on.
func lets(n int) string {
	var s strings.Builder
	for i := range n {
		fmt.Fprintf(&s, "let l%d = %d; ", i, i)
	}
	return s.String()
}

func TestP7_1Locals(t *testing.T) {
	if p := program(t, "shared x; thread { "+lets(24)+"} thread { "+lets(24)+"l23 = load(x, sc); }"); p.Threads[0].Locals != 24 || p.Threads[1].Locals != 24 || p.Threads[1].Acts[24].Dst != 23 {
		t.Errorf("P7.2: %+v", p)
	}
	head := "shared x; thread { " + lets(24) + "}\nthread { " + lets(24) + "\n"
	refused(t, head+"let r = 1; }", api.ELOCALS, 3, 1)
	refused(t, head+"let r = load(x, sc); }", api.ELOCALS, 3, 1)
	refused(t, head+"let r = xchg(x, 1, sc); }", api.ELOCALS, 3, 1)
	refused(t, head+"let r = fadd(x, 1, sc); }", api.ELOCALS, 3, 1)
	refused(t, head+"let r = cas(x, 1, 1, sc); }", api.ELOCALS, 3, 1)
	refused(t, head+"if (1) { while (1) { let r = 1; } } }", api.ELOCALS, 3, 22)
	refused(t, head+"if (1) { } else { let r = 1; } }", api.ELOCALS, 3, 19)
	refused(t, head+"let l0 = 1; }", api.ETWICE, 3, 1)
	refused(t, head+"let l23 = 1; }", api.ETWICE, 3, 1)
	refused(t, head+"let x = 1; }", api.ETWICE, 3, 1)
	refused(t, head+"let r = load(x, rel); }", api.EMODE, 3, 17)
	refused(t, head+"let r = q; }", api.ENAME, 3, 9)
	refused(t, head+"r = 1; }", api.ENAME, 3, 1)
	refused(t, "thread { while (0) { "+lets(23)+"} if (0) { let a = 1; } else {\nlet b = 1; } }", api.ELOCALS, 2, 1)
}

// Names: who may be used, where, and as what.
func TestP7_1Names(t *testing.T) {
	for _, s := range []string{
		"shared x; thread { if (0) { let r = 1; } print(r); }",
		"thread { if (0) { let r = 1; } else { print(r); r = 2; } r = 3; }",
		"thread { while (0) { let r = 1; } while (r) { r = r; } }",
		"thread { if (0) { if (0) { let r = 1; } } else { } print(r); }",
		"thread { let r = 1; if (r) { while (r) { r = r - r; } } }",
		"thread { let r = 1; let q = r; r = q; }",
		"thread { let r = 1; } thread { let r = 2; r = r; }",
		"shared x; thread { let r = 1; } thread { let y = load(x, sc); }",
		"shared r2, a[2]; thread { let r = 0; store(a[r], r, sc); r = load(r2, sc); r = load(a[r], sc); }",
	} {
		program(t, s)
	}
	for _, c := range []struct {
		text string
		code api.Errno
		col  int
	}{
		{"thread { print(r); }", api.ENAME, 16},
		{"thread { print(r); let r = 1; }", api.ENAME, 16},
		{"thread { r = 1; let r = 1; }", api.ENAME, 10},
		{"thread { let r = r + 1; }", api.ENAME, 18},
		{"thread { let r = 1; } thread { print(r); }", api.ENAME, 38},
		{"thread { let r = 1; } thread { r = 1; }", api.ENAME, 32},
		{"thread { if (r) { let r = 1; } }", api.ENAME, 14},
		{"thread { while (r) { let r = 1; } }", api.ENAME, 17},
		{"thread { if (0) { print(r); } else { let r = 1; } }", api.ENAME, 25},
		{"thread { let r = 1; let r = 2; }", api.ETWICE, 21},
		{"thread { if (0) { let r = 1; } let r = 2; }", api.ETWICE, 32},
		{"thread { if (0) { let r = 1; } else { let r = 2; } }", api.ETWICE, 39},
		{"thread { let r = 1; while (0) { let r = 2; } }", api.ETWICE, 33},
		{"shared x; thread { x = 1; }", api.ENAME, 20},
		{"shared x; thread { x = load(x, sc); }", api.ENAME, 20},
		{"shared x; thread { print(-x); }", api.ENAME, 27},
		{"shared a[2]; thread { let a = 1; }", api.ETWICE, 23},
		{"shared a[2]; thread { print(a); }", api.ENAME, 29},
		{"shared x; thread { let x = load(x, sc); }", api.ETWICE, 20},
		{"shared x; thread { store(y, 1, sc); }", api.ENAME, 26},
		{"shared x; thread { let r = 1; store(r, 1, sc); }", api.ENAME, 37},
		{"shared x; thread { store(x[0], 1, sc); }", api.ENAME, 26},
		{"shared a[1]; thread { store(a, 1, sc); }", api.ENAME, 29},
		{"shared a[1]; thread { store(a[r], 1, sc); }", api.ENAME, 31},
		{"shared a[1]; thread { store(a[a], 1, sc); }", api.ENAME, 31},
		{"shared x; thread { let r = cas(x, q, 1, sc); }", api.ENAME, 35},
		{"shared x; thread { let r = cas(x, 1, q, sc); }", api.ENAME, 38},
		{"shared x; thread { let r = cas(x, 1, r, sc); }", api.ENAME, 38},
		{"shared x; thread { let r = fadd(x, r, sc); }", api.ENAME, 36},
		{"shared x; thread { let r = xchg(x, 1 + ~(2 - r), sc); }", api.ENAME, 46},
		{"thread { print(p + q); }", api.ENAME, 16},
		{"thread { let p = 1; print(p * q - r); }", api.ENAME, 31},
		{"thread { let p = 1; print(1 - (p - (2 - q))); }", api.ENAME, 41},
	} {
		refused(t, c.text, c.code, 1, c.col)
	}
}

// Each mode at each kind that has one.
func TestP7_1Modes(t *testing.T) {
	all := []string{"rlx", "acq", "rel", "acqrel", "sc"}
	for _, c := range []struct{ text, right string }{
		{"let r = load(x, *); }", "rlx acq sc"}, {"store(x, 1, *); }", "rlx rel sc"},
		{"let r = load(a[1], *); }", "rlx acq sc"}, {"store(a[1], 1, *); }", "rlx rel sc"},
		{"let r = xchg(x, 1, *); }", "rlx acq rel acqrel sc"}, {"let r = fadd(x, 1, *); }", "rlx acq rel acqrel sc"},
		{"let r = cas(x, 1, 1, *); }", "rlx acq rel acqrel sc"}, {"fence(*); }", "acq rel acqrel sc"},
	} {
		for i, m := range all {
			text := "shared x, a[2]; thread {\n" + strings.Replace(c.text, "*", m, 1)
			if strings.Contains(" "+c.right+" ", " "+m+" ") {
				if p := program(t, text); p.Threads[0].Acts[0].Mode != i+1 {
					t.Errorf("P7.2: %q: mode %d", text, p.Threads[0].Acts[0].Mode)
				}
			} else {
				refused(t, text, api.EMODE, 2, 1+strings.Index(c.text, "*"))
			}
		}
	}
}
