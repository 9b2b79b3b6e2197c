package check_test

import (
	"reflect"
	"testing"

	"sextant/api"
	"sextant/check"
	"sextant/lang"
)

func num(v uint64) api.Expr   { return api.Expr{Op: api.OpNum, Val: v} }
func local(s string) api.Expr { return api.Expr{Op: api.OpLocal, Name: s} }

func one(op int, a api.Expr) api.Expr    { return api.Expr{Op: op, Args: []api.Expr{a}} }
func two(op int, a, b api.Expr) api.Expr { return api.Expr{Op: op, Args: []api.Expr{a, b}} }

// node makes one: what it has of a value and of operands, in that order.
func node(op int, val uint64, operands ...int) api.Node {
	n := api.Node{Op: op, Val: val}
	if len(operands) > 0 {
		n.A = operands[0]
	}
	if len(operands) > 1 {
		n.B = operands[1]
	}
	return n
}

func nodes(l ...api.Node) []api.Node { return l }

// thread is a tree with one thread.
func thread(list ...api.Stmt) api.Tree { return api.Tree{Threads: [][]api.Stmt{list}} }

// read parses a text that has no fault.
func read(t *testing.T, text string) api.Tree {
	t.Helper()
	x, f := lang.Parse([]byte(text))
	if f != (api.Fault{}) {
		t.Fatalf("%q: %v", text, f)
	}
	return x
}

// taken checks a tree that has no fault.
func taken(t *testing.T, x api.Tree) api.Prog {
	t.Helper()
	p, f := check.Check(x)
	if f != (api.Fault{}) {
		t.Fatalf("P7.1: %v of %+v", f, x)
	}
	if !check.Whole(p) {
		t.Fatalf("P7.4: not whole: %+v", p)
	}
	return p
}

// program checks a text that has no fault.
func program(t *testing.T, text string) api.Prog {
	t.Helper()
	return taken(t, read(t, text))
}

// refusedTree holds a tree against its fault.
func refusedTree(t *testing.T, what string, x api.Tree, want api.Fault) {
	t.Helper()
	if p, f := check.Check(x); f != want || p.Cells != 0 || p.Threads != nil {
		t.Errorf("P7.1, R2: %.300s: %+v, %v; want %v alone", what, p, f, want)
	}
}

// refused holds a text against its fault.
func refused(t *testing.T, text string, code api.Errno, line, col int) {
	t.Helper()
	refusedTree(t, text, read(t, text), api.Fault{Code: code, Line: line, Col: col})
}

// Copies of trees and programs: with lists of their own, empty ones nil.
func copyEach[T any](l []T, f func(T) T) []T {
	var out []T
	for _, x := range l {
		out = append(out, f(x))
	}
	return out
}

func copyTree(t api.Tree) api.Tree {
	return api.Tree{
		Shared:  append([]api.Shared(nil), t.Shared...),
		Places:  append([]api.Pair(nil), t.Places...),
		Threads: copyEach(t.Threads, copyStmts),
	}
}

func copyStmts(l []api.Stmt) []api.Stmt { return copyEach(l, copyStmt) }
func copyExprs(l []api.Expr) []api.Expr { return copyEach(l, copyExpr) }

func copyStmt(s api.Stmt) api.Stmt {
	s.Place.Index, s.Args = copyExprs(s.Place.Index), copyExprs(s.Args)
	s.Body, s.Else = copyStmts(s.Body), copyStmts(s.Else)
	return s
}

func copyExpr(e api.Expr) api.Expr {
	e.Args = copyExprs(e.Args)
	return e
}

func copyProg(p api.Prog) api.Prog {
	p.Threads = copyEach(p.Threads, func(t api.Thread) api.Thread {
		t.Acts = copyEach(t.Acts, copyAct)
		return t
	})
	return p
}

func copyAct(a api.Act) api.Act {
	a.Index, a.E, a.F = copyNodes(a.Index), copyNodes(a.E), copyNodes(a.F)
	return a
}

func copyNodes(l []api.Node) []api.Node { return append([]api.Node(nil), l...) }

// equal: are the programs one, places too?
func equal(a, b api.Prog) bool { return reflect.DeepEqual(copyProg(a), copyProg(b)) }

// bare is a program without its acts' places.
func bare(p api.Prog) api.Prog {
	out := copyProg(p)
	for _, t := range out.Threads {
		for i := range t.Acts {
			t.Acts[i].Line, t.Acts[i].Col = 0, 0
		}
	}
	return out
}

// holdActs holds a text's only thread against what is wanted of it, places aside.
func holdActs(t *testing.T, text string, locals int, want ...api.Act) {
	t.Helper()
	p := bare(program(t, text))
	if len(p.Threads) != 1 || p.Threads[0].Locals != locals || !reflect.DeepEqual(p.Threads[0].Acts, copyEach(want, copyAct)) {
		t.Errorf("P7.2: %q: %+v; want %d locals, %+v", text, p, locals, want)
	}
}

// atPlaces visits all places of a tree.
func atPlaces(t *api.Tree, f func(line, col *int)) {
	for i := range t.Shared {
		f(&t.Shared[i].Line, &t.Shared[i].Col)
	}
	for i := range t.Places {
		f(&t.Places[i].A, &t.Places[i].B)
	}
	for _, l := range t.Threads {
		atStmts(l, f)
	}
}

func atStmts(l []api.Stmt, f func(line, col *int)) {
	for i := range l {
		s := &l[i]
		f(&s.Line, &s.Col)
		f(&s.MLine, &s.MCol)
		f(&s.Place.Line, &s.Place.Col)
		atExprs(s.Place.Index, f)
		atExprs(s.Args, f)
		atStmts(s.Body, f)
		atStmts(s.Else, f)
	}
}

func atExprs(l []api.Expr, f func(line, col *int)) {
	for i := range l {
		f(&l[i].Line, &l[i].Col)
		atExprs(l[i].Args, f)
	}
}

// marked is a copy of a tree each of whose places is its own; a place for each thread, and some more.
func marked(t api.Tree) api.Tree {
	out := copyTree(t)
	out.Places = make([]api.Pair, len(t.Threads)+2)
	n := 0
	atPlaces(&out, func(line, col *int) {
		n++
		*line, *col = n, -7*n
	})
	return out
}

// dice gives numbers from 0 to n - 1 that look like chance and are the same in each run.
func dice(seed uint64) func(n int) int {
	return func(n int) int {
		seed += 0x9e3779b97f4a7c15
		z := (seed ^ seed>>30) * 0xbf58476d1ce4e5b9
		z = (z ^ z>>27) * 0x94d049bb133111eb
		return int((z ^ z>>31) % uint64(n))
	}
}
