package check_test

import (
	"reflect"
	"strconv"
	"strings"
	"testing"

	"sextant/api"
)

func TestP7_2Example(t *testing.T) {
	p := program(t, "shared x, a[4]; thread { let r = load(x, acq); while (r) { r = r - 1; store(a[r], r, rel); } }")
	r := nodes(node(api.OpLocal, 0))
	want := api.Prog{Cells: 5, Threads: []api.Thread{{Locals: 1, Acts: []api.Act{
		{Op: api.ActLoad, Mode: api.Acq, Line: 1, Col: 26},
		{Op: api.ActZero, E: r, To: 5, Line: 1, Col: 48},
		{Op: api.ActSet, E: nodes(node(api.OpLocal, 0), node(api.OpNum, 1), node(api.OpSub, 0, 0, 1)), Line: 1, Col: 60},
		{Op: api.ActStore, Base: 1, Size: 4, Index: r, E: r, Mode: api.Rel, Line: 1, Col: 71},
		{Op: api.ActJump, To: 1, Line: 1, Col: 48},
	}}}}
	if !equal(p, want) {
		t.Errorf("P7.2: %+v; want %+v", p, want)
	}
}

func TestP7_2NothingToDo(t *testing.T) {
	for text, want := range map[string]api.Prog{
		"": {}, "shared x;": {Cells: 1}, "shared a[1];": {Cells: 1}, "shared x, a[8]; shared y;": {Cells: 10},
		"thread { }": {Threads: make([]api.Thread, 1)}, "shared x; thread { } thread { } thread { }": {Cells: 1, Threads: make([]api.Thread, 3)},
	} {
		if p := program(t, text); !equal(p, want) {
			t.Errorf("P7.2: %q: %+v; want %+v", text, p, want)
		}
	}
}

// Each kind, with all that it has.
func TestP7_2Kinds(t *testing.T) {
	n := func(v uint64) []api.Node { return nodes(node(api.OpNum, v)) }
	head := "shared x, a[4], y, b[1]; thread { let q = 9; let r = 8; "
	first := []api.Act{{Op: api.ActSet, E: n(9)}, {Op: api.ActSet, Dst: 1, E: n(8)}}
	q, r := nodes(node(api.OpLocal, 0)), nodes(node(api.OpLocal, 1))
	for text, want := range map[string]api.Act{
		"r = 3;":                       {Op: api.ActSet, Dst: 1, E: n(3)},
		"let s = 3;":                   {Op: api.ActSet, Dst: 2, E: n(3)},
		"q = load(y, acq);":            {Op: api.ActLoad, Base: 5, Mode: api.Acq},
		"r = load(b[q], sc);":          {Op: api.ActLoad, Dst: 1, Base: 6, Size: 1, Index: q, Mode: api.SC},
		"let s = load(a[7], rlx);":     {Op: api.ActLoad, Dst: 2, Base: 1, Size: 4, Index: n(7), Mode: api.Rlx},
		"store(x, r, rel);":            {Op: api.ActStore, E: r, Mode: api.Rel},
		"store(a[q], r, rlx);":         {Op: api.ActStore, Base: 1, Size: 4, Index: q, E: r, Mode: api.Rlx},
		"r = xchg(y, 1, acqrel);":      {Op: api.ActXchg, Dst: 1, Base: 5, E: n(1), Mode: api.AcqRel},
		"q = xchg(a[r], q, rel);":      {Op: api.ActXchg, Base: 1, Size: 4, Index: r, E: q, Mode: api.Rel},
		"let s = fadd(x, 1, sc);":      {Op: api.ActFadd, Dst: 2, E: n(1), Mode: api.SC},
		"r = fadd(b[0], q, rlx);":      {Op: api.ActFadd, Dst: 1, Base: 6, Size: 1, Index: n(0), E: q, Mode: api.Rlx},
		"r = cas(x, 1, 2, acq);":       {Op: api.ActCas, Dst: 1, E: n(1), F: n(2), Mode: api.Acq},
		"let s = cas(b[q], r, 5, sc);": {Op: api.ActCas, Dst: 2, Base: 6, Size: 1, Index: q, E: r, F: n(5), Mode: api.SC},
		"fence(acqrel);":               {Op: api.ActFence, Mode: api.AcqRel},
		"print(r);":                    {Op: api.ActPrint, E: r},
	} {
		locals := 2
		if strings.HasPrefix(text, "let") {
			locals++
		}
		holdActs(t, head+text+" }", locals, append(append([]api.Act(nil), first...), want)...)
	}
}

// script tells the acts of a thread in short: the operation's letter, and To behind those that go.
func script(acts []api.Act) string {
	var out []string
	for _, a := range acts {
		s := string(" SLTXACFPJZ"[a.Op])
		if a.Op == api.ActPrint {
			s += "(" + strconv.FormatUint(a.E[len(a.E)-1].Val, 10) + ")"
		}
		if a.Op == api.ActJump || a.Op == api.ActZero {
			s += strconv.Itoa(a.To)
		}
		out = append(out, s)
	}
	return strings.Join(out, " ")
}

// Where To leads: a letter for each act, and the number behind that of Zero and Jump.
func TestP7_2WhereActsLead(t *testing.T) {
	for _, c := range []struct{ text, want string }{
		{"if (1) { }", "Z1"},
		{"if (1) { } else { }", "Z1"},
		{"if (1) { print(2); }", "Z2 P(2)"},
		{"if (1) { print(2); } else { }", "Z2 P(2)"},
		{"if (1) { } else { print(2); }", "Z2 J3 P(2)"},
		{"if (1) { print(2); } else { print(3); }", "Z3 P(2) J4 P(3)"},
		{"if (1) { print(2); print(3); } else { print(4); print(5); print(6); } print(7);", "Z4 P(2) P(3) J7 P(4) P(5) P(6) P(7)"},
		{"while (1) { }", "Z2 J0"},
		{"while (1) { print(2); }", "Z3 P(2) J0"},
		{"print(9); while (1) { print(2); print(3); } print(4);", "P(9) Z5 P(2) P(3) J1 P(4)"},
		{"if (1) { } if (2) { } while (3) { } while (4) { }", "Z1 Z2 Z4 J2 Z6 J4"},
		{"if (1) { if (2) { if (3) { } } }", "Z3 Z3 Z3"},
		{"if (1) { if (2) { print(3); } else { print(4); } } else { if (5) { print(6); } else { print(7); } }", "Z6 Z4 P(3) J5 P(4) J10 Z9 P(6) J10 P(7)"},
		{"if (1) { print(2); } else { if (3) { print(4); } else { if (5) { print(6); } else { print(7); } } }", "Z3 P(2) J10 Z6 P(4) J10 Z9 P(6) J10 P(7)"},
		{"while (1) { while (2) { while (3) { } } }", "Z6 Z5 Z4 J2 J1 J0"},
		{"while (1) { print(2); while (3) { print(4); } print(5); } print(6);", "Z7 P(2) Z5 P(4) J2 P(5) J0 P(6)"},
		{"while (1) { if (2) { } }", "Z3 Z2 J0"},
		{"while (1) { if (2) { print(3); } else { while (4) { print(5); } } }", "Z8 Z4 P(3) J7 Z7 P(5) J4 J0"},
		{"if (1) { while (2) { } } else { while (3) { } } print(4);", "Z4 Z3 J1 J6 Z6 J4 P(4)"},
		{"if (1) { } else { while (2) { if (3) { } else { print(4); } } }", "Z2 J7 Z7 Z5 J6 P(4) J2"},
		{"if (1) { } else { if (2) { } else { } }", "Z2 J3 Z3"},
	} {
		p := program(t, "thread { "+c.text+" }")
		if got := script(p.Threads[0].Acts); got != c.want {
			t.Errorf("P7.2: %q: %s; want %s", c.text, got, c.want)
		}
	}
}

// An ActZero has its condition and no more; a jump has none.
func TestP7_2WhatGoesHas(t *testing.T) {
	sum := nodes(node(api.OpNum, 1), node(api.OpLocal, 0), node(api.OpNeg, 0, 1), node(api.OpAdd, 0, 0, 2))
	set := api.Act{Op: api.ActSet, E: nodes(node(api.OpNum, 5))}
	body, other := api.Act{Op: api.ActFence, Mode: api.SC}, api.Act{Op: api.ActFence, Mode: api.Acq}
	holdActs(t, "thread { let r = 5; if (1 + -r) { fence(sc); } else { fence(acq); } }", 1, set, api.Act{Op: api.ActZero, E: sum, To: 4}, body, api.Act{Op: api.ActJump, To: 5}, other)
	holdActs(t, "thread { let r = 5; if (1 + -r) { fence(sc); } }", 1, set, api.Act{Op: api.ActZero, E: sum, To: 3}, body)
	holdActs(t, "thread { let r = 5; while (1 + -r) { fence(sc); } }", 1, set, api.Act{Op: api.ActZero, E: sum, To: 4}, body, api.Act{Op: api.ActJump, To: 1})
}

func TestP7_2Nodes(t *testing.T) {
	l := func(v uint64) api.Node { return node(api.OpLocal, v) }
	n := func(v uint64) api.Node { return node(api.OpNum, v) }
	for text, want := range map[string][]api.Node{
		"7":                    nodes(n(7)),
		"18446744073709551615": nodes(n(1<<64 - 1)),
		"p":                    nodes(l(0)), "q": nodes(l(1)),
		"-q":      nodes(l(1), node(api.OpNeg, 0, 0)),
		"~!-0":    nodes(n(0), node(api.OpNeg, 0, 0), node(api.OpIs0, 0, 1), node(api.OpNot, 0, 2)),
		"q - p":   nodes(l(1), l(0), node(api.OpSub, 0, 0, 1)),
		"p + p":   nodes(l(0), l(0), node(api.OpAdd, 0, 0, 1)),
		"1-2-3":   nodes(n(1), n(2), node(api.OpSub, 0, 0, 1), n(3), node(api.OpSub, 0, 2, 3)),
		"1-(2-3)": nodes(n(1), n(2), n(3), node(api.OpSub, 0, 1, 2), node(api.OpSub, 0, 0, 3)),
		"(1 << 2) * (q ^ -p)": nodes(n(1), n(2), node(api.OpShl, 0, 0, 1), l(1), l(0), node(api.OpNeg, 0, 4), node(api.OpXor, 0, 3, 5),
			node(api.OpMul, 0, 2, 6)),
		"!(p <= 1) | (q == 2 & 3)": nodes(l(0), n(1), node(api.OpLe, 0, 0, 1), node(api.OpIs0, 0, 2), l(1), n(2), node(api.OpEq, 0, 4, 5), n(3), node(api.OpAnd, 0, 6, 7), node(api.OpOr, 0, 3, 8)),
	} {
		set := func(dst int) api.Act { return api.Act{Op: api.ActSet, Dst: dst, E: nodes(n(4))} }
		holdActs(t, "shared x, a[2]; thread { let p = 4; let q = 4; q = cas(a["+text+"], "+text+", "+text+", sc); }", 2, set(0), set(1),
			api.Act{Op: api.ActCas, Dst: 1, Base: 1, Size: 2, Index: want, E: want, F: want, Mode: api.SC})
		holdActs(t, "thread { let p = 4; let q = 4; if ("+text+") { print("+text+"); } }", 2, set(0), set(1),
			api.Act{Op: api.ActZero, E: want, To: 4}, api.Act{Op: api.ActPrint, E: want})
	}
}

// Each operation keeps its number.
func TestP7_2Operations(t *testing.T) {
	for op := api.OpNeg; op <= api.OpGe; op++ {
		e, want := one(op, num(3)), nodes(node(api.OpNum, 3), node(op, 0, 0))
		if op >= api.OpMul {
			e, want = two(op, num(3), num(4)), nodes(node(api.OpNum, 3), node(api.OpNum, 4), node(op, 0, 0, 1))
		}
		p := taken(t, thread(api.Stmt{Kind: api.SPrint, Args: []api.Expr{e}}))
		if got := p.Threads[0].Acts[0].E; !reflect.DeepEqual(got, want) {
			t.Errorf("P7.2: operation %d: %v", op, got)
		}
	}
}

// Locals are numbered by the order of their declarations, in whatever block; each thread has its own.
func TestP7_2Locals(t *testing.T) {
	p := program(t, `shared x;
		thread { if (0) { let c = 1; while (c) { let a = c; } } else { let d = 2; } let b = load(x, sc); print(a); print(b); print(c); print(d); d = a; }
		thread { let b = 1; print(b); }
		thread { }
		thread { let a = 1; let b = 2; let c = 3; let d = 4; print(d); print(a); }`)
	var got [][]int
	for _, th := range p.Threads {
		l := []int{th.Locals}
		for _, a := range th.Acts {
			switch a.Op {
			case api.ActSet, api.ActLoad:
				l = append(l, a.Dst)
			case api.ActPrint:
				l = append(l, 100+int(a.E[0].Val))
			}
		}
		got = append(got, l)
	}
	want := [][]int{{4, 0, 1, 2, 3, 101, 103, 100, 102, 2}, {1, 0, 100}, {0}, {4, 0, 1, 2, 3, 103, 100}}
	if !reflect.DeepEqual(got, want) {
		t.Errorf("P7.2: %v; want %v", got, want)
	}
}

// A declaration's cells lie behind those of the ones ahead of it.
func TestP7_2Cells(t *testing.T) {
	p := program(t, "shared a[2]; shared b, c[1024]; shared d[1], e; thread { store(a[0], 1, sc); store(b, 1, sc); store(c[0], 1, sc); store(d[0], 1, sc); store(e, 1, sc); }")
	var got []api.Pair
	for _, a := range p.Threads[0].Acts {
		got = append(got, api.Pair{A: a.Base, B: a.Size})
	}
	if want := []api.Pair{{A: 0, B: 2}, {A: 2}, {A: 3, B: 1024}, {A: 1027, B: 1}, {A: 1028}}; p.Cells != 1029 || !reflect.DeepEqual(got, want) {
		t.Errorf("P7.2: %d cells, %v; want 1029, %v", p.Cells, got, want)
	}
}

// Each act has its statement's place, a jump too.
func TestP7_2PlacesOfActs(t *testing.T) {
	p := program(t, `shared x;
thread {
 let r = 1;
  while (r) {
   if (r) {
    r = 2; } else {
     store(x, 1, sc);
 }
 }
 fence(sc); print(1);
}
 thread { print(2); }`)
	var got []api.Pair
	for _, th := range p.Threads {
		for _, a := range th.Acts {
			got = append(got, api.Pair{A: a.Line, B: a.Col})
		}
	}
	want := []api.Pair{{A: 3, B: 2}, {A: 4, B: 3}, {A: 5, B: 4}, {A: 6, B: 5}, {A: 5, B: 4}, {A: 7, B: 6}, {A: 4, B: 3}, {A: 10, B: 2}, {A: 10, B: 13}, {A: 12, B: 11}}
	if !reflect.DeepEqual(got, want) {
		t.Errorf("P7.2: %v; want %v", got, want)
	}
}
