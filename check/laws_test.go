package check_test

import (
	"fmt"
	"math"
	"reflect"
	"testing"
	"unsafe"

	"sextant/api"
	"sextant/check"
	"sextant/lang"
)

// faulty are trees with each fault.
var faulty = []string{
	"shared x, x;", "shared a[3];", "shared a[1024], b[1024], c[1024], d[1024], e;",
	"thread { x = 1; }", "thread { let x = 1; let x = 2; }", "shared x; thread { if (1) { } else { store(x, 1, acq); } }", "shared a[2]; thread { let r = 1; r = load(a[r * q], sc); }", "shared x; thread { store(y, 1, sc); }",
	"thread { while (1) { let r = 1; print(-r + r * q); } }", whatIsLookedAt + " thread { x = 1; }",
}

// Whatever places a tree has: the code is the same, and the program, but for its acts' places; and a place that is told moves as it moves in the tree.
func TestP7_4Places(t *testing.T) {
	trees := []api.Tree{read(t, whatIsLookedAt), threads(70, 70), threads(64, 64)}
	for _, s := range faulty {
		trees = append(trees, read(t, s))
	}
	for i := range 600 {
		trees = append(trees, (&maker{roll: dice(uint64(400 + i)), wrong: 60 * (i % 2)}).tree(4))
	}
	moved := func(line, col int) (int, int) { return 5000 - 3*line, math.MinInt + line }
	right, wrong := 0, 0
	for _, x := range trees {
		a := marked(x)
		b := copyTree(a)
		atPlaces(&b, func(line, col *int) { *line, *col = moved(*line, *col) })
		p, f := check.Check(a)
		q, g := check.Check(b)
		if f.Code != api.OK {
			wrong++
			if f.Line, f.Col = moved(f.Line, f.Col); f != g {
				t.Errorf("P7.4: %+v: %v, want %v", x, g, f)
			}
			continue
		}
		right++
		for _, th := range p.Threads {
			for k := range th.Acts {
				th.Acts[k].Line, th.Acts[k].Col = moved(th.Acts[k].Line, th.Acts[k].Col)
			}
		}
		if g != f || !equal(p, q) {
			t.Errorf("P7.4: %+v: %+v, %v; want %+v", x, q, g, p)
		}
		b.Places = nil
		if q, g := check.Check(b); g != f || !equal(p, q) {
			t.Errorf("P7.4: %+v: the threads' places are seen", x)
		}
	}
	if right < 200 || wrong < 100 {
		t.Errorf("not all is tried: %d trees are right, %d wrong", right, wrong)
	}
}

// A tree that is the same as another, places aside, has the same program, places aside: that of its text among them.
func TestP7_4TextsOfTrees(t *testing.T) {
	for i := range 300 {
		x := (&maker{roll: dice(uint64(40000 + i)), wrong: 100 * (i % 2)}).tree(4)
		s, e := lang.Print(x)
		if e != api.OK {
			t.Fatalf("%v of %+v", e, x)
		}
		p, f := check.Check(x)
		q, g := check.Check(read(t, s))
		if f.Code != g.Code || !reflect.DeepEqual(bare(p), bare(q)) {
			t.Errorf("P7.4: %q: %+v, %v; want %+v, %v", s, q, g, p, f)
		}
		if g.Code == api.OK && !check.Whole(q) {
			t.Errorf("P7.4: not whole: %q", s)
		}
	}
}

// Trees that are nested deep, and one fault deep within.
func TestP7_4Deep(t *testing.T) {
	const deep = 60000
	fence := api.Stmt{Kind: api.SFence, Mode: api.SC, Line: 6, Col: 6, MLine: 7, MCol: 8}
	loops, choices := fence, fence
	chain, left, right := local("r"), local("r"), local("r")
	chain.Line, chain.Col = 3, 4
	for i := range deep {
		chain = one(api.OpNot, chain)
		if i < deep/2 {
			loops = api.Stmt{Kind: api.SWhile, Args: []api.Expr{num(1)}, Body: []api.Stmt{loops}}
			choices = api.Stmt{Kind: api.SIf, Args: []api.Expr{num(1)}, Else: []api.Stmt{choices}}
			left, right = two(api.OpSub, left, num(1)), two(api.OpSub, num(1), right)
		}
	}
	let := api.Stmt{Kind: api.SSet, Let: true, Name: "r", Args: []api.Expr{num(1)}}
	printOf := func(e api.Expr) api.Stmt { return api.Stmt{Kind: api.SPrint, Args: []api.Expr{e}} }
	for i, c := range []struct {
		s    api.Stmt
		acts int
	}{{loops, deep + 1}, {choices, deep + 1}, {printOf(chain), 1}, {printOf(left), 1}, {printOf(right), 1}} {
		p := taken(t, thread(let, c.s))
		if l := p.Threads[0].Acts; len(l) != c.acts+1 || i < 2 && l[1+i].To != len(l) || i > 1 && len(l[1].E) != deep+1 {
			t.Errorf("P7.2: case %d, %d deep: %d acts", i, deep, len(l))
		}
	}
	refusedTree(t, "a name deep within", thread(printOf(chain)), api.Fault{Code: api.ENAME, Line: 3, Col: 4})
	bad := &loops
	for len(bad.Body) > 0 {
		bad = &bad.Body[0]
	}
	bad.Mode = api.Rlx
	refusedTree(t, "a mode deep within", thread(loops), api.Fault{Code: api.EMODE, Line: 7, Col: 8})
}

// A thread with more acts than Whole takes is no text's; nothing says that Check refuses it.
func TestP7_1NoLimitOnActs(t *testing.T) {
	list := make([]api.Stmt, api.MaxText+1)
	for i := range list {
		list[i] = api.Stmt{Kind: api.SFence, Mode: api.SC}
	}
	p, f := check.Check(thread(list...))
	if f != (api.Fault{}) || len(p.Threads) != 1 || len(p.Threads[0].Acts) != len(list) {
		t.Errorf("P7.1, R6: %v", f)
	}
	taken(t, thread(list[1:]...))
}

// span is the memory of a list, spare room too.
type span struct{ low, high uintptr }

func spanOf[T any](l []T) span {
	low := uintptr(unsafe.Pointer(unsafe.SliceData(l)))
	return span{low, low + uintptr(cap(l))*reflect.TypeFor[T]().Size()}
}

func progSpans(p api.Prog) []span {
	out := []span{spanOf(p.Threads)}
	for _, t := range p.Threads {
		out = append(out, spanOf(t.Acts))
		for _, a := range t.Acts {
			out = append(out, spanOf(a.Index), spanOf(a.E), spanOf(a.F))
		}
	}
	return out
}

// What is answered shares no memory, though the tree's lists may.
func TestR4NoTwoListsShareMemory(t *testing.T) {
	e := []api.Expr{two(api.OpAdd, num(1), num(2))}
	cas := api.Stmt{Kind: api.SCas, Let: true, Name: "r", Place: api.Place{Name: "a", Index: e}, Args: []api.Expr{e[0], e[0]}, Mode: api.SC}
	body := []api.Stmt{{Kind: api.SPrint, Args: e}, {Kind: api.SPrint, Args: e}}
	choice := api.Stmt{Kind: api.SIf, Args: e, Body: body, Else: body}
	list := []api.Stmt{cas, choice, choice}
	trees := []api.Tree{{Shared: []api.Shared{{Name: "a", Size: 2}}, Threads: [][]api.Stmt{list, list, body, body}}}
	for i := range 100 {
		trees = append(trees, (&maker{roll: dice(uint64(60000 + i))}).tree(3))
	}
	for _, x := range trees {
		p, _ := check.Check(x)
		q, _ := check.Check(x)
		if !equal(p, q) {
			t.Errorf("R5: %+v: %+v, then %+v", x, p, q)
		}
		all := append(progSpans(p), progSpans(q)...)
		for i, a := range all {
			for _, b := range all[:i] {
				if a.low < a.high && b.low < b.high && a.low < b.high && b.low < a.high {
					t.Fatalf("R4: %+v: two lists share memory", x)
				}
			}
		}
	}
}

// withRoom is a copy of a tree whose lists have room behind them, with something in it.
func withRoom(t api.Tree) api.Tree {
	var stmts func(l []api.Stmt) []api.Stmt
	var exprs func(l []api.Expr) []api.Expr
	exprs = func(l []api.Expr) []api.Expr {
		out := copyEach(l, func(e api.Expr) api.Expr { e.Args = exprs(e.Args); return e })
		return append(out, api.Expr{Op: 5, Val: 5}, api.Expr{Name: "spare"})[:len(l)]
	}
	stmts = func(l []api.Stmt) []api.Stmt {
		out := copyEach(l, func(s api.Stmt) api.Stmt {
			s.Place.Index, s.Args, s.Body, s.Else = exprs(s.Place.Index), exprs(s.Args), stmts(s.Body), stmts(s.Else)
			return s
		})
		return append(out, api.Stmt{Name: "spare"}, api.Stmt{Mode: 5})[:len(l)]
	}
	out := api.Tree{Threads: append(copyEach(t.Threads, stmts), []api.Stmt{{Name: "spare"}})[:len(t.Threads)]}
	out.Shared = append(append([]api.Shared(nil), t.Shared...), api.Shared{Name: "spare"})[:len(t.Shared)]
	out.Places = append(append([]api.Pair(nil), t.Places...), api.Pair{A: 5})[:len(t.Places)]
	return out
}

// widened is a copy of a tree with what stands in the room behind its lists.
func widened(t api.Tree) api.Tree {
	var stmts func(l []api.Stmt) []api.Stmt
	var exprs func(l []api.Expr) []api.Expr
	exprs = func(l []api.Expr) []api.Expr {
		return copyEach(l[:cap(l)], func(e api.Expr) api.Expr { e.Args = exprs(e.Args); return e })
	}
	stmts = func(l []api.Stmt) []api.Stmt {
		return copyEach(l[:cap(l)], func(s api.Stmt) api.Stmt {
			s.Place.Index, s.Args, s.Body, s.Else = exprs(s.Place.Index), exprs(s.Args), stmts(s.Body), stmts(s.Else)
			return s
		})
	}
	return api.Tree{
		Shared: append([]api.Shared(nil), t.Shared[:cap(t.Shared)]...), Places: append([]api.Pair(nil), t.Places[:cap(t.Places)]...),
		Threads: copyEach(t.Threads[:cap(t.Threads)], stmts),
	}
}

func TestR4TreesAreNotChanged(t *testing.T) {
	trees := []api.Tree{{}, read(t, whatIsLookedAt), threads(70, 66), thread(api.Stmt{Kind: 77, Args: []api.Expr{{}}})}
	for _, s := range faulty {
		trees = append(trees, read(t, s))
	}
	for i := range 100 {
		trees = append(trees, (&maker{roll: dice(uint64(80000 + i)), wrong: 80 * (i % 2)}).tree(4))
	}
	for i, x := range trees {
		a := withRoom(x)
		before := widened(a)
		p, f := check.Check(a)
		if !reflect.DeepEqual(widened(a), before) {
			t.Errorf("R4: case %d: a tree is changed", i)
		}
		if q, g := check.Check(x); f != g || !equal(p, q) {
			t.Errorf("R4, R5: case %d: the room behind a list is seen", i)
		}
		kept := copyProg(p)
		for _, l := range a.Threads {
			clear(l[:cap(l)])
		}
		clear(a.Shared[:cap(a.Shared)])
		if !equal(p, kept) {
			t.Errorf("R4: case %d: a tree is kept", i)
		}
	}
}

// roomy is a copy of a program whose lists have room behind them, with something in it.
func roomy(p api.Prog) api.Prog {
	list := func(l []api.Node) []api.Node { return append(copyNodes(l), api.Node{Op: 1}, api.Node{A: 5})[:len(l)] }
	ts := copyEach(p.Threads, func(t api.Thread) api.Thread {
		acts := copyEach(t.Acts, func(a api.Act) api.Act {
			a.Index, a.E, a.F = list(a.Index), list(a.E), list(a.F)
			return a
		})
		t.Acts = append(acts, api.Act{Op: 77}, api.Act{To: 5})[:len(acts)]
		return t
	})
	p.Threads = append(ts, api.Thread{Locals: 99})[:len(ts)]
	return p
}

// widenedProg is a copy of a program with what stands in the room behind its lists.
func widenedProg(p api.Prog) api.Prog {
	p.Threads = copyEach(p.Threads[:cap(p.Threads)], func(t api.Thread) api.Thread {
		t.Acts = copyEach(t.Acts[:cap(t.Acts)], func(a api.Act) api.Act {
			a.Index, a.E, a.F = copyNodes(a.Index[:cap(a.Index)]), copyNodes(a.E[:cap(a.E)]), copyNodes(a.F[:cap(a.F)])
			return a
		})
		return t
	})
	return p
}

func TestR4ProgramsAreNotChanged(t *testing.T) {
	progs := []api.Prog{{}, program(t, whatIsLookedAt), {Cells: -1, Threads: make([]api.Thread, 3)}, among(api.Act{Op: 12}), among(api.Act{Op: api.ActPrint, E: nodes(node(api.OpNeg, 0, 3))})}
	for op := api.ActSet; op <= api.ActZero; op++ {
		for _, a := range rightActs(op) {
			progs = append(progs, among(a))
		}
	}
	for i, p := range progs {
		a := roomy(p)
		before := widenedProg(a)
		got := check.Whole(a)
		if !reflect.DeepEqual(widenedProg(a), before) {
			t.Errorf("R4: case %d: a program is changed", i)
		}
		if got != check.Whole(p) {
			t.Errorf("R4: case %d: the room behind a list is seen", i)
		}
	}
}

// Calls at the same time have nothing in common.
func TestR5AtTheSameTime(t *testing.T) {
	x := read(t, whatIsLookedAt)
	want := taken(t, x)
	told := make(chan string)
	for range 8 {
		go func() {
			for range 50 {
				if p, f := check.Check(x); f.Code != api.OK || !equal(p, want) || !check.Whole(p) {
					told <- fmt.Sprintf("R5: %+v, %v", p, f)
					return
				}
			}
			told <- ""
		}()
	}
	for range 8 {
		if s := <-told; s != "" {
			t.Error(s)
		}
	}
}
