package lang_test

import (
	"math"
	"strings"
	"testing"

	"sextant/api"
	"sextant/lang"
)

// sample is a statement of each kind, with and without what it may lack.
func sample() []api.Stmt {
	x, i := api.Place{Name: "x"}, api.Place{Name: "a", Index: []api.Expr{two(local("r"), "&", num(7))}}
	e, f := []api.Expr{num(1)}, []api.Expr{num(1), one("-", local("q"))}
	set, fence := api.Stmt{Kind: api.SSet, Name: "x", Args: e}, api.Stmt{Kind: api.SFence, Mode: api.SC}
	return []api.Stmt{
		set, {Kind: api.SSet, Let: true, Name: "x", Args: f[1:]},
		{Kind: api.SLoad, Name: "r", Place: x, Mode: api.Acq}, {Kind: api.SLoad, Let: true, Name: "r", Place: i, Mode: api.Rlx},
		{Kind: api.SStore, Place: x, Args: e, Mode: api.Rel}, {Kind: api.SStore, Place: i, Args: e, Mode: api.SC},
		{Kind: api.SXchg, Name: "r", Place: x, Args: e, Mode: api.AcqRel}, {Kind: api.SXchg, Let: true, Name: "r", Place: i, Args: e, Mode: api.SC},
		{Kind: api.SFadd, Name: "r", Place: x, Args: e, Mode: api.SC}, {Kind: api.SFadd, Let: true, Name: "r", Place: i, Args: e, Mode: api.Rlx},
		{Kind: api.SCas, Name: "r", Place: x, Args: f, Mode: api.SC}, {Kind: api.SCas, Let: true, Name: "r", Place: i, Args: f, Mode: api.Acq},
		fence, {Kind: api.SPrint, Args: e},
		{Kind: api.SIf, Args: e}, {Kind: api.SIf, Args: e, Body: []api.Stmt{set, fence}}, {Kind: api.SIf, Args: f[1:], Else: []api.Stmt{fence}}, {Kind: api.SIf, Args: e, Body: []api.Stmt{set}, Else: []api.Stmt{fence}},
		{Kind: api.SWhile, Args: e}, {Kind: api.SWhile, Args: e, Body: []api.Stmt{set}},
	}
}

// holdWhole holds Whole, and EARG of Print, against what is wanted.
func holdWhole(t *testing.T, x api.Tree, want bool) {
	t.Helper()
	if got := lang.Whole(x); got != want {
		t.Fatalf("P6.3: %v of %+v", got, x)
	}
	if s, e := lang.Print(x); (e != api.EARG) != want || e == api.EARG && s != "" {
		t.Fatalf("P6.4: %q, %v of %+v", s, e, x)
	}
}

func TestP6_3WholeTrees(t *testing.T) {
	holdWhole(t, api.Tree{}, true)
	holdWhole(t, api.Tree{Shared: []api.Shared{}, Threads: [][]api.Stmt{}, Places: []api.Pair{}}, true)
	holdWhole(t, api.Tree{Threads: [][]api.Stmt{nil, {}, nil}}, true)
	for _, s := range sample() {
		holdWhole(t, thread(s), true)
		printed(t, thread(s))
		empty := copyStmt(s)
		for _, l := range []*[]api.Expr{&empty.Args, &empty.Place.Index} {
			if *l == nil {
				*l = []api.Expr{}
			}
		}
		for _, l := range []*[]api.Stmt{&empty.Body, &empty.Else} {
			if *l == nil {
				*l = []api.Stmt{}
			}
		}
		holdWhole(t, thread(empty), true)
	}
	holdWhole(t, thread(sample()...), true)
	printed(t, thread(sample()...))
	printed(t, api.Tree{Threads: [][]api.Stmt{sample(), nil, sample()}})
}

// What may be wrong with one field of a statement. Whether it is then wrong for the kind at hand, the model tells.
func wrongs() []func(s *api.Stmt) {
	e := num(3)
	list := []func(s *api.Stmt){
		func(s *api.Stmt) { s.Let = !s.Let },
		func(s *api.Stmt) { s.Place.Index = nil },
		func(s *api.Stmt) { s.Place.Index = append(s.Place.Index, e) },
		func(s *api.Stmt) { s.Place.Index = append(s.Place.Index, e, e) },
		func(s *api.Stmt) { s.Place.Index = []api.Expr{{}} },
		func(s *api.Stmt) { s.Args = nil },
		func(s *api.Stmt) { s.Args = append(s.Args, e) },
		func(s *api.Stmt) { s.Args = append(s.Args, e, e) },
		func(s *api.Stmt) { s.Args = s.Args[:max(0, len(s.Args)-1)] },
		func(s *api.Stmt) { s.Body = []api.Stmt{{Kind: api.SFence, Mode: api.Acq}} },
		func(s *api.Stmt) { s.Else = []api.Stmt{{Kind: api.SFence, Mode: api.Acq}} },
		func(s *api.Stmt) { s.Body = []api.Stmt{{}} },
		func(s *api.Stmt) { s.Else = []api.Stmt{{}} },
		func(s *api.Stmt) { s.Body = append(s.Body, api.Stmt{Kind: api.SFence}) },
		func(s *api.Stmt) { s.Else = append(s.Else, api.Stmt{Kind: api.SFence, Mode: 6}) },
	}
	for _, n := range []string{"", "sc", "let", "x", "ω9", "9", "x y", "x;", "é", "x\xff", "-", " x", "x ", "//"} {
		list = append(list, func(s *api.Stmt) { s.Name = n }, func(s *api.Stmt) { s.Place.Name = n })
	}
	for m := -2; m <= 17; m++ {
		list = append(list, func(s *api.Stmt) { s.Mode = m }, func(s *api.Stmt) { s.Kind = m })
	}
	for _, m := range []int{math.MinInt, math.MaxInt, 1 << 32, 1<<32 + 1, 256 + 1} {
		list = append(list, func(s *api.Stmt) { s.Mode = m }, func(s *api.Stmt) { s.Kind = m })
	}
	for _, x := range wrongExprs() {
		list = append(list, func(s *api.Stmt) {
			if len(s.Args) > 0 {
				s.Args[len(s.Args)-1] = x
			}
		}, func(s *api.Stmt) { s.Place.Index = []api.Expr{x} })
	}
	return list
}

// wrongExprs are expressions, many of which have one wrong field.
func wrongExprs() []api.Expr {
	n, x := num(1), local("x")
	out := []api.Expr{
		n, x, {}, {Op: api.OpNum}, {Op: api.OpNum, Val: math.MaxUint64}, {Op: api.OpNum, Name: "x"}, {Op: api.OpNum, Args: []api.Expr{n}},
		{Op: api.OpLocal}, {Op: api.OpLocal, Name: "sc"}, {Op: api.OpLocal, Name: "x y"}, {Op: api.OpLocal, Name: "1"}, {Op: api.OpLocal, Name: "x", Val: 1}, {Op: api.OpLocal, Name: "x", Args: []api.Expr{n}}, {Op: api.OpLocal, Name: "ω"},
	}
	for op := -1; op <= api.OpGe+2; op++ {
		for _, args := range [][]api.Expr{nil, {n}, {n, x}, {n, x, n}, {{}}, {n, {}}, {{}, n}, {{Op: api.OpNeg}}, {n, {Op: api.OpAdd, Args: []api.Expr{n}}}} {
			out = append(out, api.Expr{Op: op, Args: args}, api.Expr{Op: op, Args: args, Val: 1}, api.Expr{Op: op, Args: args, Name: "y"})
		}
	}
	for _, op := range []int{math.MinInt, math.MaxInt, 1<<32 + api.OpNum, 256 + api.OpNeg} {
		out = append(out, api.Expr{Op: op}, api.Expr{Op: op, Args: []api.Expr{n}}, api.Expr{Op: op, Args: []api.Expr{n, n}})
	}
	return out
}

func TestP6_3OneWrongField(t *testing.T) {
	right, wrong := 0, 0
	for _, s := range sample() {
		for _, change := range wrongs() {
			x := copyStmt(s)
			change(&x)
			fence := api.Stmt{Kind: api.SFence, Mode: api.SC}
			want := hasProgram(thread(x))
			if want {
				right++
			} else {
				wrong++
			}
			holdWhole(t, thread(x), want)
			holdWhole(t, thread(fence, x, fence), want)
			holdWhole(t, api.Tree{Threads: [][]api.Stmt{nil, {fence}, {x}}}, want)
			holdWhole(t, thread(api.Stmt{Kind: api.SWhile, Args: []api.Expr{num(1)}, Body: []api.Stmt{x}}), want)
			holdWhole(t, thread(api.Stmt{Kind: api.SIf, Args: []api.Expr{num(1)}, Body: []api.Stmt{fence}, Else: []api.Stmt{x}}), want)
		}
	}
	if right < 500 || wrong < 2000 {
		t.Errorf("not all is tried: %d trees are right, %d wrong", right, wrong)
	}
}

// Deep within an expression, too.
func TestP6_3OneWrongExpr(t *testing.T) {
	for _, e := range wrongExprs() {
		want := hasProgram(printOf(e))
		holdWhole(t, printOf(e), want)
		holdWhole(t, printOf(one("-", e)), want)
		holdWhole(t, printOf(two(num(1), "*", one("!", two(e, "-", num(2))))), want)
		holdWhole(t, printOf(two(e, "|", local("x"))), want)
		holdWhole(t, printOf(two(local("x"), "|", e)), want)
	}
}

// By the chapter's words, one by one, without the model.
func TestP6_3ByHand(t *testing.T) {
	x, e, f := api.Place{Name: "x"}, []api.Expr{num(1)}, []api.Stmt{{Kind: api.SFence, Mode: 1}}
	for i, s := range []api.Stmt{
		{}, {Kind: -1}, {Kind: 11, Args: e}, {Kind: api.SSet, Args: e}, {Kind: api.SSet, Name: "x"}, {Kind: api.SSet, Name: "x", Args: []api.Expr{num(1), num(2)}}, {Kind: api.SSet, Name: "x", Args: e, Place: x}, {Kind: api.SSet, Name: "x", Args: e, Mode: 1}, {Kind: api.SSet, Name: "x", Args: e, Body: f}, {Kind: api.SSet, Name: "x", Args: e, Else: f},
		{Kind: api.SLoad, Name: "x", Mode: 1}, {Kind: api.SLoad, Place: x, Mode: 1}, {Kind: api.SLoad, Name: "x", Place: x}, {Kind: api.SLoad, Name: "x", Place: x, Mode: 6}, {Kind: api.SLoad, Name: "x", Place: x, Mode: -1}, {Kind: api.SLoad, Name: "x", Place: x, Mode: 1, Args: e}, {Kind: api.SLoad, Name: "x", Place: api.Place{Name: "x", Index: []api.Expr{num(1), num(1)}}, Mode: 1}, {Kind: api.SLoad, Name: "x", Place: api.Place{Index: e}, Mode: 1},
		{Kind: api.SStore, Name: "x", Place: x, Args: e, Mode: 1}, {Kind: api.SStore, Let: true, Place: x, Args: e, Mode: 1}, {Kind: api.SStore, Place: x, Mode: 1}, {Kind: api.SStore, Args: e, Mode: 1}, {Kind: api.SStore, Place: x, Args: e},
		{Kind: api.SXchg, Place: x, Args: e, Mode: 1}, {Kind: api.SXchg, Name: "x", Place: x, Mode: 1}, {Kind: api.SFadd, Place: x, Args: e, Mode: 1}, {Kind: api.SFadd, Name: "x", Args: e, Mode: 1}, {Kind: api.SCas, Name: "x", Place: x, Args: e, Mode: 1}, {Kind: api.SCas, Place: x, Args: []api.Expr{num(1), num(2)}, Mode: 1}, {Kind: api.SCas, Name: "x", Place: x, Args: []api.Expr{num(1), num(2), num(3)}, Mode: 1},
		{Kind: api.SFence}, {Kind: api.SFence, Mode: 1, Args: e}, {Kind: api.SFence, Mode: 1, Place: x}, {Kind: api.SFence, Mode: 1, Name: "x"}, {Kind: api.SFence, Mode: 1, Let: true}, {Kind: api.SFence, Mode: 1, Place: api.Place{Index: e}},
		{Kind: api.SPrint}, {Kind: api.SPrint, Args: e, Mode: 5}, {Kind: api.SPrint, Args: e, Name: "x"}, {Kind: api.SPrint, Args: e, Let: true}, {Kind: api.SPrint, Args: e, Body: f},
		{Kind: api.SIf}, {Kind: api.SIf, Args: e, Mode: 1}, {Kind: api.SIf, Args: e, Name: "x"}, {Kind: api.SIf, Args: e, Let: true}, {Kind: api.SIf, Args: e, Place: x}, {Kind: api.SWhile, Args: e, Else: f}, {Kind: api.SWhile}, {Kind: api.SWhile, Args: e, Place: api.Place{Index: e}},
	} {
		if lang.Whole(thread(s)) {
			t.Errorf("P6.3: case %d: %+v", i, s)
		}
		unprinted(t, "not whole", thread(s), api.EARG)
	}
}

func TestP6_3Declarations(t *testing.T) {
	good := api.Shared{Name: "y"}
	for _, size := range []int{-1, 0, 1, 2, 3, 1000, 1<<31 - 1, 1 << 31} {
		x := api.Tree{Shared: []api.Shared{good, {Name: "x", Size: size}}}
		holdWhole(t, x, true)
		printed(t, x)
	}
	for _, size := range []int{-2, -3, math.MinInt, 1<<31 + 1, 1 << 32, -1 << 31, math.MaxInt} {
		holdWhole(t, api.Tree{Shared: []api.Shared{{Name: "x", Size: size}}}, false)
		holdWhole(t, api.Tree{Shared: []api.Shared{good, {Name: "x", Size: size}, good}}, false)
	}
	for _, n := range []string{"", "sc", "shared", "9", "x y", "x[1]", "é", "x\xff", "x\n", ";"} {
		holdWhole(t, api.Tree{Shared: []api.Shared{{Name: n}}}, false)
		holdWhole(t, api.Tree{Shared: []api.Shared{good, {Name: n, Size: 4}, good}, Threads: [][]api.Stmt{nil}}, false)
	}
	for _, n := range []string{"x", "_", "ωα", "sc1", "SC"} {
		printed(t, api.Tree{Shared: []api.Shared{good, {Name: n, Size: 4}, {Name: n}}})
	}
}

// Whatever places a tree has, it is whole; they leave Print as it is, and Same.
func TestP6_3Places(t *testing.T) {
	roll := dice(63)
	for range 300 {
		_, x, _ := made(roll, 4)
		y := copyTree(x)
		atPlaces(&y, func(line, col *int) { *line, *col = roll(7)-3, roll(2)*math.MinInt })
		for _, l := range [][]api.Pair{y.Places, nil, {{A: 9, B: 9}}, make([]api.Pair, len(y.Threads)+3)} {
			y.Places = l
			holdWhole(t, y, true)
			if tell(t, y) != tell(t, x) || !lang.Same(x, y) || !lang.Same(y, x) {
				t.Fatalf("P6.3 to P6.5: places are seen: %+v", y)
			}
		}
	}
}

// chain is an operation of one within one another, so many.
func chain(n int, sign string, e api.Expr) api.Expr {
	for range n {
		e = one(sign, e)
	}
	return e
}

// rooms is so many loops within one another, around a statement.
func rooms(n int, s api.Stmt) api.Stmt {
	for range n {
		s = api.Stmt{Kind: api.SWhile, Args: []api.Expr{num(1)}, Body: []api.Stmt{s}}
	}
	return s
}

// How deep a tree is, is not asked.
func TestP6_3Deep(t *testing.T) {
	fence := api.Stmt{Kind: api.SFence, Mode: api.SC}
	left, right := num(1), num(1)
	for range 65000 {
		left, right = two(left, "-", num(1)), two(num(1), "-", right)
	}
	for _, c := range []struct {
		what string
		x    api.Tree
		code api.Errno
	}{
		{"signs", printOf(chain(65000, "~", local("x"))), api.EDEEP},
		{"a sum from the left", printOf(left), api.EBIG},
		{"a sum from the right", printOf(right), api.EDEEP},
		{"blocks", thread(rooms(65000, fence)), api.EDEEP},
		{"an index", thread(api.Stmt{Kind: api.SStore, Place: api.Place{Name: "a", Index: []api.Expr{chain(65000, "-", num(1))}}, Args: []api.Expr{num(1)}, Mode: 1}), api.EDEEP},
	} {
		if !lang.Whole(c.x) || !lang.Same(c.x, c.x) || lang.Same(c.x, api.Tree{}) {
			t.Errorf("P6.3: %s, 65000 deep", c.what)
		}
		unprinted(t, c.what, c.x, c.code)
	}
	for _, x := range []api.Tree{
		printOf(chain(65000, "~", local("sc"))), thread(rooms(65000, api.Stmt{Kind: api.SFence})), printOf(two(left, "+", api.Expr{})),
		{Shared: []api.Shared{{Name: strings.Repeat("x", 100000) + "-"}}},
	} {
		if lang.Whole(x) {
			t.Error("P6.3: a wrong one that is deep within")
		}
		unprinted(t, "a wrong one that is deep within", x, api.EARG)
	}
}
