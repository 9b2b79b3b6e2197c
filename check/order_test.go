package check_test

import (
	"testing"

	"sextant/api"
)

// whatIsLookedAt has all that can be wrong, and is right. The first thread has 24 locals.
const whatIsLookedAt = `
shared x, a[4], b0[1024], b1[1024], b2[1024], c[512], y;
thread {
	let p = 1;
	let q = load(a[p - p], acq);
	let r = cas(a[p * q], p + q, q ^ p, rlx);
	if (p & q) {
		let s = xchg(a[q << p], p - q, rel);
		fence(acq);
	} else {
		store(a[q | s], p == q, sc);
		let u = fadd(x, q, acq);
	}
	while (s < u) {
		print(p >= q);
		u = load(y, rlx);
	}
	let m0 = 1; let m1 = 1; let m2 = 1; let m3 = 1; let m4 = 1; let m5 = 1; let m6 = 1; let m7 = 1; let m8 = 1; let m9 = 1;
	let m10 = 1; let m11 = 1; let m12 = 1; let m13 = 1; let m14 = 1; let m15 = 1; let m16 = 1; let m17 = 1; let m18 = 1;
	p = q;
	q = p;
}
thread {
	let p = fadd(y, 1, acqrel);
	store(x, p, rel);
}`

// spoilt: what makes one thing wrong, and the fault that this is. Two of one key can't be done both.
type spoilt struct {
	key string
	do  func(x *api.Tree) api.Fault
}

func faultAt(code api.Errno, line, col int) api.Fault {
	return api.Fault{Code: code, Line: line, Col: col}
}

func spoilExpr(key string, find func(x *api.Tree) *api.Expr) spoilt {
	return spoilt{key, func(x *api.Tree) api.Fault {
		e := find(x)
		e.Name = "nobody"
		return faultAt(api.ENAME, e.Line, e.Col)
	}}
}

func spoilStmt(key string, find func(x *api.Tree) *api.Stmt, do func(s *api.Stmt) api.Fault) spoilt {
	return spoilt{key, func(x *api.Tree) api.Fault { return do(find(x)) }}
}

// spoilPlace makes a place wrong in each of the three ways.
func spoilPlace(key string, find func(x *api.Tree) *api.Stmt) []spoilt {
	way := func(change func(p *api.Place)) spoilt {
		return spoilStmt(key, find, func(s *api.Stmt) api.Fault {
			change(&s.Place)
			return faultAt(api.ENAME, s.Place.Line, s.Place.Col)
		})
	}
	return []spoilt{
		way(func(p *api.Place) { p.Name = "nobody" }),
		way(func(p *api.Place) {
			if len(p.Index) > 0 {
				p.Name = "x"
			} else {
				p.Name = "a"
			}
		}),
	}
}

// spoilName makes the name wrong that a statement sets.
func spoilName(key string, find func(x *api.Tree) *api.Stmt) []spoilt {
	way := func(let bool, name string, code api.Errno) spoilt {
		return spoilStmt(key, find, func(s *api.Stmt) api.Fault {
			s.Let, s.Name = let, name
			return faultAt(code, s.Line, s.Col)
		})
	}
	return []spoilt{way(true, "x", api.ETWICE), way(true, "a", api.ETWICE), way(false, "nobody", api.ENAME), way(false, "x", api.ENAME)}
}

func spoilMode(key string, mode int, find func(x *api.Tree) *api.Stmt) spoilt {
	return spoilStmt(key, find, func(s *api.Stmt) api.Fault {
		s.Mode = mode
		return faultAt(api.EMODE, s.MLine, s.MCol)
	})
}

func spoilDecl(key string, n int, code api.Errno, change func(s *api.Shared)) spoilt {
	return spoilt{key, func(x *api.Tree) api.Fault {
		change(&x.Shared[n])
		return faultAt(code, x.Shared[n].Line, x.Shared[n].Col)
	}}
}

// declSpoils: in the order of looking.
func declSpoils() []spoilt {
	return []spoilt{
		{"not whole", func(x *api.Tree) api.Fault {
			x.Threads[1][0].Args[0].Name = "number"
			return api.Fault{Code: api.EARG}
		}},
		spoilDecl("x's size", 0, api.EARRAY, func(s *api.Shared) { s.Size = -1 }),
		spoilDecl("a's name", 1, api.ETWICE, func(s *api.Shared) { s.Name = "x" }),
		spoilDecl("a's size", 1, api.EARRAY, func(s *api.Shared) { s.Size = 6 }),
		spoilDecl("b2's name", 4, api.ETWICE, func(s *api.Shared) { s.Name = "b0" }),
		spoilDecl("b2's size", 4, api.EARRAY, func(s *api.Shared) { s.Size = 1025 }),
		spoilDecl("c's name", 5, api.ETWICE, func(s *api.Shared) { s.Name = "b1" }),
		spoilDecl("c's size", 5, api.ECELLS, func(s *api.Shared) { s.Size = 1024 }),
		spoilDecl("y's name", 6, api.ETWICE, func(s *api.Shared) { s.Name = "c" }),
		spoilDecl("y's size", 6, api.ECELLS, func(s *api.Shared) { s.Size = 1024 }),
		spoilDecl("y's size", 6, api.EARRAY, func(s *api.Shared) { s.Size = 1 << 31 }),
		{"threads", func(x *api.Tree) api.Fault {
			for len(x.Threads) <= api.MaxThreads {
				x.Threads = append(x.Threads, nil)
			}
			x.Places = append(x.Places, make([]api.Pair, 80)...)
			x.Places[64] = api.Pair{A: 640, B: 641}
			return faultAt(api.ETHREADS, 640, 641)
		}},
	}
}

// firstSpoils are those of the first thread, but for its blocks.
func firstSpoils() []spoilt {
	at := func(n int) func(x *api.Tree) *api.Stmt {
		return func(x *api.Tree) *api.Stmt { return &x.Threads[0][n] }
	}
	index := func(n, side int) func(x *api.Tree) *api.Expr {
		return func(x *api.Tree) *api.Expr { return &at(n)(x).Place.Index[0].Args[side] }
	}
	arg := func(n, which, side int) func(x *api.Tree) *api.Expr {
		return func(x *api.Tree) *api.Expr { return &at(n)(x).Args[which].Args[side] }
	}
	var l []spoilt
	l = append(l, spoilName("p's name", at(0))...)
	l = append(l, spoilPlace("q's place", at(1))...)
	l = append(l, spoilExpr("q's index, left", index(1, 0)), spoilExpr("q's index, right", index(1, 1)))
	l = append(l, spoilMode("q's mode", api.Rel, at(1)), spoilMode("q's mode", api.AcqRel, at(1)))
	l = append(l, spoilName("q's name", at(1))...)
	l = append(l, spoilPlace("r's place", at(2))...)
	l = append(l, spoilExpr("r's index, left", index(2, 0)), spoilExpr("r's index, right", index(2, 1)))
	l = append(l, spoilExpr("r's first, left", arg(2, 0, 0)), spoilExpr("r's first, right", arg(2, 0, 1)))
	l = append(l, spoilExpr("r's second, left", arg(2, 1, 0)), spoilExpr("r's second, right", arg(2, 1, 1)))
	return append(l, spoilName("r's name", at(2))...)
}

// blockSpoils are those of the first thread's blocks.
func blockSpoils() []spoilt {
	body := func(n int) func(x *api.Tree) *api.Stmt {
		return func(x *api.Tree) *api.Stmt { return &x.Threads[0][3].Body[n] }
	}
	other := func(n int) func(x *api.Tree) *api.Stmt {
		return func(x *api.Tree) *api.Stmt { return &x.Threads[0][3].Else[n] }
	}
	loop := func(n int) func(x *api.Tree) *api.Stmt {
		return func(x *api.Tree) *api.Stmt { return &x.Threads[0][4].Body[n] }
	}
	index := func(find func(x *api.Tree) *api.Stmt, side int) func(x *api.Tree) *api.Expr {
		return func(x *api.Tree) *api.Expr { return &find(x).Place.Index[0].Args[side] }
	}
	arg := func(find func(x *api.Tree) *api.Stmt, side int) func(x *api.Tree) *api.Expr {
		return func(x *api.Tree) *api.Expr { return &find(x).Args[0].Args[side] }
	}
	top := func(n int) func(x *api.Tree) *api.Stmt {
		return func(x *api.Tree) *api.Stmt { return &x.Threads[0][n] }
	}
	l := []spoilt{spoilExpr("if, left", arg(top(3), 0)), spoilExpr("if, right", arg(top(3), 1))}
	l = append(l, spoilPlace("s's place", body(0))...)
	l = append(l, spoilExpr("s's index, left", index(body(0), 0)), spoilExpr("s's index, right", index(body(0), 1)))
	l = append(l, spoilExpr("s's arg, left", arg(body(0), 0)), spoilExpr("s's arg, right", arg(body(0), 1)))
	l = append(l, spoilName("s's name", body(0))...)
	l = append(l, spoilMode("fence's mode", api.Rlx, body(1)))
	l = append(l, spoilPlace("store's place", other(0))...)
	l = append(l, spoilExpr("store's index, left", index(other(0), 0)), spoilExpr("store's index, right", index(other(0), 1)))
	l = append(l, spoilExpr("store's arg, left", arg(other(0), 0)), spoilExpr("store's arg, right", arg(other(0), 1)))
	l = append(l, spoilMode("store's mode", api.Acq, other(0)), spoilMode("store's mode", api.AcqRel, other(0)))
	l = append(l, spoilPlace("u's place", other(1))...)
	l = append(l, spoilName("u's name", other(1))...)
	l = append(l, spoilExpr("while, left", arg(top(4), 0)), spoilExpr("while, right", arg(top(4), 1)))
	l = append(l, spoilExpr("print, left", arg(loop(0), 0)), spoilExpr("print, right", arg(loop(0), 1)))
	l = append(l, spoilPlace("load's place", loop(1))...)
	l = append(l, spoilMode("load's mode", api.Rel, loop(1)))
	return append(l, spoilName("load's name", loop(1))...)
}

// lastSpoils are those behind the blocks, and of the second thread.
func lastSpoils() []spoilt {
	top := func(n int) func(x *api.Tree) *api.Stmt {
		return func(x *api.Tree) *api.Stmt { return &x.Threads[0][n] }
	}
	second := func(n int) func(x *api.Tree) *api.Stmt {
		return func(x *api.Tree) *api.Stmt { return &x.Threads[1][n] }
	}
	l := []spoilt{spoilExpr("p = q", func(x *api.Tree) *api.Expr { return &top(24)(x).Args[0] })}
	l = append(l, spoilName("p = q, name", top(24))...)
	l = append(l, spoilExpr("q = p", func(x *api.Tree) *api.Expr { return &top(25)(x).Args[0] }))
	l = append(l, spoilStmt("q = p, name", top(25), func(s *api.Stmt) api.Fault {
		s.Let, s.Name = true, "more"
		return faultAt(api.ELOCALS, s.Line, s.Col)
	}))
	l = append(l, spoilStmt("q = p, name", top(25), func(s *api.Stmt) api.Fault {
		s.Let, s.Name = true, "m7"
		return faultAt(api.ETWICE, s.Line, s.Col)
	}))
	l = append(l, spoilPlace("second p's place", second(0))...)
	l = append(l, spoilName("second p's name", second(0))...)
	l = append(l, spoilPlace("second store's place", second(1))...)
	l = append(l, spoilExpr("second store's arg", func(x *api.Tree) *api.Expr { return &second(1)(x).Args[0] }))
	return append(l, spoilMode("second store's mode", api.AcqRel, second(1)))
}

// allSpoils: in the order of looking, those of one key for one another.
func allSpoils() []spoilt {
	l := append(declSpoils(), firstSpoils()...)
	return append(append(l, blockSpoils()...), lastSpoils()...)
}

// Of two things that are wrong the one that is looked at first is told.
func TestP7_1OrderOfLooking(t *testing.T) {
	base := marked(read(t, whatIsLookedAt))
	if p := taken(t, base); p.Threads[0].Locals != api.MaxLocals {
		t.Fatalf("%d locals", p.Threads[0].Locals)
	}
	list := allSpoils()
	pairs := 0
	for i, a := range list {
		x := copyTree(base)
		want := a.do(&x)
		refusedTree(t, a.key, x, want)
		for _, b := range list[i+1:] {
			if a.key == b.key {
				continue
			}
			y := copyTree(base)
			b.do(&y)
			want := a.do(&y)
			pairs++
			refusedTree(t, a.key+", "+b.key, y, want)
		}
	}
	if pairs < 4000 {
		t.Errorf("only %d pairs are tried", pairs)
	}
}

// The same, with all that stands behind wrong too.
func TestP7_1AllBehindIsWrong(t *testing.T) {
	base := marked(read(t, whatIsLookedAt))
	list := allSpoils()
	for i, a := range list {
		x := copyTree(base)
		done := map[string]bool{a.key: true}
		for j := len(list) - 1; j > i; j-- {
			if !done[list[j].key] {
				done[list[j].key] = true
				list[j].do(&x)
			}
		}
		want := a.do(&x)
		refusedTree(t, a.key+", and all behind it", x, want)
	}
}
