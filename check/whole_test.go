package check_test

import (
	"fmt"
	"math"
	"slices"
	"strings"
	"testing"

	"sextant/api"
	"sextant/check"
)

// among is a program in which an act stands among others: 8 cells, 2 locals, 3 acts.
func among(a api.Act) api.Prog {
	fence := api.Act{Op: api.ActFence, Mode: api.SC}
	return api.Prog{Cells: 8, Threads: []api.Thread{{}, {Locals: 2, Acts: []api.Act{fence, a, fence}}, {Locals: 24}}}
}

func holdWhole(t *testing.T, what string, p api.Prog, want bool) {
	t.Helper()
	if check.Whole(p) != want {
		t.Errorf("P7.3: %s: %v; %+v", what, !want, p)
	}
}

// What each act has: Dst, a place, E, F, To; and its modes.
var hasOf = []struct{ parts, modes string }{
	api.ActSet: {"D E", ""}, api.ActLoad: {"D P", "125"}, api.ActStore: {"P E", "135"}, api.ActXchg: {"D P E", "12345"}, api.ActFadd: {"D P E", "12345"},
	api.ActCas: {"D P E F", "12345"}, api.ActFence: {"", "2345"}, api.ActPrint: {"E", ""}, api.ActJump: {"T", ""}, api.ActZero: {"E T", ""},
}

func has(op int, part string) bool { return strings.Contains(hasOf[op].parts, part) }

// sums are expressions.
func sums() [][]api.Node {
	return [][]api.Node{
		nodes(node(api.OpNum, 0)), nodes(node(api.OpNum, 1<<64-1)), nodes(node(api.OpLocal, 0)), nodes(node(api.OpLocal, 1)),
		nodes(node(api.OpNum, 5), node(api.OpIs0, 0, 0)),
		nodes(node(api.OpNum, 5), node(api.OpLocal, 1), node(api.OpGe, 0, 0, 1)),
		nodes(node(api.OpNum, 5), node(api.OpLocal, 1), node(api.OpMul, 0, 1, 0)),
		nodes(node(api.OpNum, 5), node(api.OpNum, 5), node(api.OpNot, 0, 0), node(api.OpSub, 0, 1, 2)),
		nodes(node(api.OpNum, 5), node(api.OpNum, 5), node(api.OpNum, 5), node(api.OpAnd, 0, 2, 0), node(api.OpShr, 0, 3, 1), node(api.OpNeg, 0, 4)),
	}
}

// rightActs are acts of an operation, with all that they may have.
func rightActs(op int) []api.Act {
	var out []api.Act
	for i, e := range sums() {
		a := api.Act{Op: op, Line: -3, Col: math.MaxInt}
		if has(op, "D") {
			a.Dst = i % 2
		}
		if has(op, "E") {
			a.E = e
		}
		if has(op, "F") {
			a.F = sums()[(i+4)%9]
		}
		if has(op, "T") {
			a.To = i % 4
		}
		if m := hasOf[op].modes; m != "" {
			a.Mode = int(m[i%len(m)] - '0')
		}
		if has(op, "P") {
			at := []api.Pair{{A: 0}, {A: 7}, {A: 7, B: 1}, {A: 6, B: 2}, {A: 4, B: 4}, {A: 0, B: 8}, {A: 0, B: 4}, {A: 3}, {A: 0, B: 1}}[i]
			a.Base, a.Size = at.A, at.B
			if a.Size > 0 {
				a.Index = sums()[(i+7)%9]
			}
		}
		out = append(out, a)
	}
	return out
}

func TestP7_3WholePrograms(t *testing.T) {
	holdWhole(t, "nothing", api.Prog{}, true)
	holdWhole(t, "empty lists", api.Prog{Threads: []api.Thread{{Acts: []api.Act{}}}}, true)
	for op := api.ActSet; op <= api.ActZero; op++ {
		for i, a := range rightActs(op) {
			holdWhole(t, fmt.Sprintf("act %d, case %d", op, i), among(a), true)
			for _, l := range []*[]api.Node{&a.Index, &a.E, &a.F} {
				if *l == nil {
					*l = []api.Node{}
				}
			}
			holdWhole(t, fmt.Sprintf("act %d, case %d, empty lists", op, i), among(a), true)
		}
	}
}

func TestP7_3Limits(t *testing.T) {
	for n, want := range map[int]bool{math.MinInt: false, -1: false, 0: true, 1: true, 4095: true, 4096: true, 4097: false, math.MaxInt: false} {
		holdWhole(t, fmt.Sprint(n, " cells"), api.Prog{Cells: n}, want)
	}
	for n, want := range map[int]bool{1: true, 63: true, 64: true, 65: false, 100: false} {
		holdWhole(t, fmt.Sprint(n, " threads"), api.Prog{Threads: make([]api.Thread, n)}, want)
	}
	for n, want := range map[int]bool{math.MinInt: false, -1: false, 0: true, 1: true, 24: true, 25: false, math.MaxInt: false} {
		for at := range 3 {
			p := api.Prog{Threads: make([]api.Thread, 3)}
			p.Threads[at].Locals = n
			holdWhole(t, fmt.Sprint(n, " locals"), p, want)
		}
	}
	for n, want := range map[int]bool{65535: true, 65536: true, 65537: false} {
		acts := slices.Repeat([]api.Act{{Op: api.ActFence, Mode: api.SC}}, n)
		holdWhole(t, "acts", api.Prog{Threads: []api.Thread{{Acts: acts}}}, want)
		acts[0] = api.Act{Op: api.ActJump, To: n}
		holdWhole(t, "acts, the first to the end", api.Prog{Threads: []api.Thread{{}, {Acts: acts}}}, want)
		acts[n-1] = api.Act{Op: api.ActJump, To: n + 1}
		holdWhole(t, "acts, the last beyond the end", api.Prog{Threads: []api.Thread{{}, {Acts: acts}}}, false)
		for _, e := range [][]api.Node{chainOf(n), ladderOf(n)} {
			holdWhole(t, fmt.Sprint(n, " nodes"), among(api.Act{Op: api.ActPrint, E: e}), want)
			holdWhole(t, fmt.Sprint(n, " nodes"), among(api.Act{Op: api.ActZero, E: e}), want)
			holdWhole(t, fmt.Sprint(n, " nodes"), among(api.Act{Op: api.ActCas, Mode: 1, Size: 1, Index: e, E: e, F: e}), want)
		}
	}
}

// chainOf has so many nodes, each but the first the operation of the one ahead.
func chainOf(n int) []api.Node {
	out := nodes(node(api.OpLocal, 1))
	for len(out) < n {
		out = append(out, node(api.OpNot, 0, len(out)-1))
	}
	return out
}

// ladderOf has so many nodes: first numbers, then what adds them up.
func ladderOf(n int) []api.Node {
	var out []api.Node
	for range (n + 1) / 2 {
		out = append(out, node(api.OpNum, 3))
	}
	last := 0
	for i := 1; len(out) < n && i < (n+1)/2; i++ {
		out = append(out, node(api.OpAdd, 0, i, last))
		last = len(out) - 1
	}
	for len(out) < n {
		out = append(out, node(api.OpNeg, 0, len(out)-1))
	}
	return out
}

// All values of a number: those that are right, by the words, and others.
func TestP7_3OneWrongNumber(t *testing.T) {
	values := []int{math.MinInt, -1 << 32, -1024, -3, -2, -1, 0, 1, 2, 3, 4, 5, 6, 7, 8, 9, 10, 11, 12, 16, 32, 64, 256, 1 << 32, 1<<32 + 1, math.MaxInt - 1, math.MaxInt}
	in := func(v int, list ...int) bool { return slices.Contains(list, v) }
	for op := api.ActSet; op <= api.ActZero; op++ {
		for i, right := range rightActs(op) {
			for _, v := range values {
				what := fmt.Sprintf("act %d, case %d, %d", op, i, v)
				a := right
				a.Dst = v
				holdWhole(t, what+" as Dst", among(a), v == 0 || has(op, "D") && v == 1)
				a = right
				a.To = v
				holdWhole(t, what+" as To", among(a), v == 0 || has(op, "T") && in(v, 1, 2, 3))
				a = right
				a.Mode = v
				holdWhole(t, what+" as Mode", among(a), v == 0 && hasOf[op].modes == "" || in(v, 1, 2, 3, 4, 5) && strings.Contains(hasOf[op].modes, fmt.Sprint(v)))
				a = right
				a.Base = v
				holdWhole(t, what+" as Base", among(a), v == 0 || has(op, "P") && v >= 0 && v <= 8 && v+max(1, a.Size) <= 8)
				a = right
				a.Size = v
				holdWhole(t, what+" as Size", among(a), v == right.Size || right.Size > 0 && in(v, 1, 2, 4, 8) && a.Base+v <= 8)
			}
		}
	}
}

// An Op that is none, with whatever it has.
func TestP7_3NoAct(t *testing.T) {
	for op := api.ActSet; op <= api.ActZero; op++ {
		for _, a := range rightActs(op) {
			for _, v := range []int{0, -1, 11, 12, 100, math.MinInt, math.MaxInt, 1<<32 + op, -op} {
				a.Op = v
				holdWhole(t, fmt.Sprint("act ", v), among(a), false)
			}
		}
	}
	holdWhole(t, "nothing", among(api.Act{}), false)
}

// One act for another: right, just if its expressions are there, all else that it hasn't is 0, and the mode is one of its own.
func TestP7_3AnotherAct(t *testing.T) {
	for op := api.ActSet; op <= api.ActZero; op++ {
		for _, a := range rightActs(op) {
			for other := api.ActSet; other <= api.ActZero; other++ {
				want := has(op, "E") == has(other, "E") && has(op, "F") == has(other, "F") && (has(other, "P") || a.Base == 0 && a.Size == 0)
				want = want && (a.Dst == 0 || has(other, "D")) && (a.To == 0 || has(other, "T"))
				want = want && (a.Mode == 0 && hasOf[other].modes == "" || a.Mode > 0 && strings.Contains(hasOf[other].modes, fmt.Sprint(a.Mode)))
				b := a
				b.Op = other
				holdWhole(t, fmt.Sprintf("act %d for %d", other, op), among(b), want)
			}
		}
	}
}

// Arrays of all sizes, in as many cells and in one fewer.
func TestP7_3Sizes(t *testing.T) {
	right := []int{1, 2, 4, 8, 16, 32, 64, 128, 256, 512, 1024}
	for size := -3; size <= 4096; size++ {
		a := api.Act{Op: api.ActLoad, Mode: api.SC, Base: 0, Size: size, Index: nodes(node(api.OpNum, 1))}
		p := api.Prog{Cells: 4096, Threads: []api.Thread{{Locals: 1, Acts: []api.Act{a}}}}
		holdWhole(t, fmt.Sprint("size ", size), p, slices.Contains(right, size))
		if slices.Contains(right, size) {
			p.Cells = size
			holdWhole(t, fmt.Sprint(size, " of as many cells"), p, true)
			p.Cells = size - 1
			holdWhole(t, fmt.Sprint(size, " of too few cells"), p, false)
		}
	}
	for _, base := range []int{4095, 4096, 4097, math.MaxInt, math.MaxInt - 1023, -1, math.MinInt} {
		for _, size := range []int{0, 1, 1024} {
			a := api.Act{Op: api.ActLoad, Mode: api.SC, Base: base, Size: size}
			if size > 0 {
				a.Index = nodes(node(api.OpNum, 1))
			}
			p := api.Prog{Cells: 4096, Threads: []api.Thread{{Locals: 1, Acts: []api.Act{a}}}}
			holdWhole(t, fmt.Sprint("base ", base, ", size ", size), p, base == 4095 && size < 2)
		}
	}
	a := api.Act{Op: api.ActLoad, Mode: api.SC}
	holdWhole(t, "a cell of none", api.Prog{Threads: []api.Thread{{Locals: 1, Acts: []api.Act{a}}}}, false)
	holdWhole(t, "a cell", api.Prog{Cells: 1, Threads: []api.Thread{{Locals: 1, Acts: []api.Act{a}}}}, true)
	holdWhole(t, "a local of none", api.Prog{Cells: 1, Threads: []api.Thread{{Acts: []api.Act{a}}}}, false)
	holdWhole(t, "a local of another thread", api.Prog{Cells: 1, Threads: []api.Thread{{Locals: 5}, {Acts: []api.Act{a}}}}, false)
}

// Expressions where there is to be none, none where there is to be one, wrong ones.
func TestP7_3WrongLists(t *testing.T) {
	for op := api.ActSet; op <= api.ActZero; op++ {
		for i, right := range rightActs(op) {
			for _, f := range []struct {
				part string
				list func(a *api.Act) *[]api.Node
			}{{"P", func(a *api.Act) *[]api.Node { return &a.Index }}, {"E", func(a *api.Act) *[]api.Node { return &a.E }}, {"F", func(a *api.Act) *[]api.Node { return &a.F }}} {
				may := has(op, f.part) && (f.part != "P" || right.Size > 0)
				try := func(l []api.Node, want bool) {
					a := right
					*f.list(&a) = l
					holdWhole(t, fmt.Sprintf("act %d, case %d, list %s", op, i, f.part), among(a), want)
				}
				try(nil, !may)
				try([]api.Node{}, !may)
				try(make([]api.Node, 0, 5), !may)
				try(make([]api.Node, 1), false)
				for _, e := range sums() {
					try(e, may)
					try(append(slices.Clone(e), node(api.OpNum, 1)), false)
				}
			}
		}
	}
}

// isExpr: the model of an expression: from the last node on, each is reached once, from nodes behind it.
func isExpr(l []api.Node, locals int) bool {
	if len(l) < 1 || len(l) > 65536 {
		return false
	}
	reached := make([]int, len(l))
	todo := []int{len(l) - 1}
	for len(todo) > 0 {
		at := todo[0]
		todo = todo[1:]
		reached[at]++
		if reached[at] > 1 {
			return false
		}
		n := l[at]
		var down []int
		switch {
		case n.Op == api.OpNum && n.A == 0 && n.B == 0:
		case n.Op == api.OpLocal && n.A == 0 && n.B == 0 && n.Val < uint64(locals):
		case slices.Contains([]int{api.OpNeg, api.OpNot, api.OpIs0}, n.Op) && n.B == 0 && n.Val == 0:
			down = []int{n.A}
		case n.Op >= 6 && n.Op <= 19 && n.Val == 0:
			down = []int{n.A, n.B}
		default:
			return false
		}
		for _, d := range down {
			if d < 0 || d >= at {
				return false
			}
			todo = append(todo, d)
		}
	}
	return !slices.Contains(reached, 0)
}

func holdExpr(t *testing.T, l []api.Node) bool {
	want := isExpr(l, 2)
	if check.Whole(among(api.Act{Op: api.ActPrint, E: l})) != want {
		t.Fatalf("P7.3: %v of %v", !want, l)
	}
	return want
}

// All lists of up to three nodes with small numbers.
func TestP7_3AllSmallExpressions(t *testing.T) {
	var all []api.Node
	for _, op := range []int{api.OpNum, api.OpLocal, api.OpNeg, api.OpAdd} {
		for a := -1; a <= 2; a++ {
			for b := -1; b <= 2; b++ {
				all = append(all, api.Node{Op: op, A: a, B: b})
			}
		}
	}
	right := 0
	count := func(l ...api.Node) {
		if holdExpr(t, l) {
			right++
		}
	}
	for _, a := range all {
		count(a)
		for _, b := range all {
			count(a, b)
			for _, c := range all {
				count(a, b, c)
			}
		}
	}
	if right != 2+2+(2+8) {
		t.Errorf("not all is tried: %d are right", right)
	}
}

// One wrong number in a node, and nodes that are the operand of none, of two, of one twice.
func TestP7_3WrongNodes(t *testing.T) {
	right, wrong := 0, 0
	try := func(l []api.Node) {
		if holdExpr(t, l) {
			right++
		} else {
			wrong++
		}
	}
	for _, e := range append(sums(), chainOf(6), ladderOf(9), ladderOf(12)) {
		try(e)
		for i := range e {
			for _, v := range []int{math.MinInt, -1, 0, 1, 2, 3, 4, 5, 6, 7, 19, 20, 21, 1 << 32, 1<<32 + 1, math.MaxInt} {
				for _, change := range []func(n *api.Node){func(n *api.Node) { n.Op = v }, func(n *api.Node) { n.Val = uint64(v) }, func(n *api.Node) { n.A = v }, func(n *api.Node) { n.B = v }} {
					l := slices.Clone(e)
					change(&l[i])
					try(l)
				}
			}
			try(slices.Delete(slices.Clone(e), i, i+1))
			try(slices.Insert(slices.Clone(e), i, node(api.OpNum, 1)))
			try(slices.Concat(e[:i], e))
		}
	}
	if right < 100 || wrong < 2000 {
		t.Errorf("not all is tried: %d are right, %d wrong", right, wrong)
	}
}

// Larger ones, made by chance: an operand may be any node ahead that is free; then one number is changed.
func TestP7_3MadeExpressions(t *testing.T) {
	roll := dice(73)
	right, wrong := 0, 0
	for range 20000 {
		var l []api.Node
		var free []int
		take := func() int {
			i := roll(len(free))
			x := free[i]
			free = slices.Delete(free, i, i+1)
			return x
		}
		for len(l) < 12 || len(free) > 1 {
			n := api.Node{Op: 1 + roll(19)}
			if len(l) >= 12 {
				n.Op = api.OpMul + roll(14)
			}
			switch {
			case n.Op >= api.OpMul && len(free) > 1:
				n.A = take()
				n.B = take()
			case n.Op >= api.OpNeg && n.Op < api.OpMul && len(free) > 0:
				n.A = take()
			default:
				n.Op = 1 + roll(2)
				n.Val = uint64(roll(2))
			}
			free = append(free, len(l))
			l = append(l, n)
		}
		if !holdExpr(t, l) {
			t.Fatalf("the test made what is no expression: %v", l)
		}
		i := roll(len(l))
		switch roll(4) {
		case 0:
			l[i].Op = roll(21)
		case 1:
			l[i].A = roll(len(l))
		case 2:
			l[i].B = roll(len(l))
		default:
			l[i].Val = uint64(roll(4))
		}
		if holdExpr(t, l) {
			right++
		} else {
			wrong++
		}
	}
	if right < 1000 || wrong < 5000 {
		t.Errorf("not all is tried: %d are right, %d wrong", right, wrong)
	}
}

// By the chapter's words, one by one, without a model.
func TestP7_3ByHand(t *testing.T) {
	n, l := nodes(node(api.OpNum, 7)), nodes(node(api.OpLocal, 1))
	five := node(api.OpNum, 5)
	for i, a := range []api.Act{
		{Op: api.ActSet}, {Op: api.ActSet, Dst: 2, E: n}, {Op: api.ActSet, Dst: -1, E: n}, {Op: api.ActSet, E: n, F: n}, {Op: api.ActSet, E: n, Mode: 1}, {Op: api.ActSet, E: n, To: 1}, {Op: api.ActSet, E: n, Base: 1}, {Op: api.ActSet, E: n, Size: 1, Index: n}, {Op: api.ActSet, E: n, Index: n},
		{Op: api.ActLoad}, {Op: api.ActLoad, Mode: 3}, {Op: api.ActLoad, Mode: 4}, {Op: api.ActLoad, Mode: 1, E: n}, {Op: api.ActLoad, Mode: 1, Base: 8}, {Op: api.ActLoad, Mode: 1, Index: n}, {Op: api.ActLoad, Mode: 1, Size: 1}, {Op: api.ActLoad, Mode: 1, Size: 3, Index: n}, {Op: api.ActLoad, Mode: 1, Base: 5, Size: 4, Index: n}, {Op: api.ActLoad, Mode: 1, To: 1},
		{Op: api.ActStore, Mode: 2, E: n}, {Op: api.ActStore, Mode: 4, E: n}, {Op: api.ActStore, Mode: 1}, {Op: api.ActStore, Mode: 1, E: n, Dst: 1}, {Op: api.ActStore, Mode: 1, E: n, F: l},
		{Op: api.ActXchg, Mode: 6, E: n}, {Op: api.ActXchg, Mode: 0, E: n}, {Op: api.ActXchg, Mode: 1}, {Op: api.ActFadd, Mode: 1, F: n}, {Op: api.ActCas, Mode: 1, E: n}, {Op: api.ActCas, Mode: 1, F: n},
		{Op: api.ActFence, Mode: 1}, {Op: api.ActFence, Mode: 0}, {Op: api.ActFence, Mode: 5, E: n}, {Op: api.ActFence, Mode: 5, Dst: 1}, {Op: api.ActPrint}, {Op: api.ActPrint, E: n, Mode: 5}, {Op: api.ActPrint, E: n, Dst: 1},
		{Op: api.ActJump, To: 4}, {Op: api.ActJump, To: -1}, {Op: api.ActJump, E: n}, {Op: api.ActZero, To: 1}, {Op: api.ActZero, E: n, To: 4}, {Op: api.ActZero, E: n, To: -1}, {Op: api.ActZero, E: n, Dst: 1},
		{Op: api.ActPrint, E: nodes(node(api.OpLocal, 2))}, {Op: api.ActPrint, E: nodes(node(api.OpLocal, 1<<63))}, {Op: api.ActPrint, E: nodes(five, five)}, {Op: api.ActPrint, E: nodes(five, node(api.OpAdd, 0, 0, 0))}, {Op: api.ActPrint, E: nodes(node(api.OpNeg, 0, 0))}, {Op: api.ActPrint, E: nodes(five, node(api.OpNeg, 0, 1))}, {Op: api.ActPrint, E: nodes(five, five, node(api.OpNeg, 0, 0))},
		{Op: api.ActPrint, E: nodes(five, node(api.OpNeg, 0, 0), node(api.OpAdd, 0, 0, 1))}, {Op: api.ActPrint, E: nodes(five, node(api.OpNeg, 1, 0))}, {Op: api.ActPrint, E: nodes(five, five, node(api.OpAdd, 1, 0, 1))}, {Op: api.ActPrint, E: nodes(node(api.OpNum, 0, 1))}, {Op: api.ActPrint, E: nodes(node(api.OpNum, 0, 0, 1))}, {Op: api.ActPrint, E: nodes(five, node(api.OpNeg, 0, 0, 1))},
	} {
		if check.Whole(among(a)) {
			t.Errorf("P7.3: case %d: %+v", i, a)
		}
	}
}
