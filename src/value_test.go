package src_test

import (
	"fmt"
	"math"
	"slices"
	"testing"

	"sextant/api"
	"sextant/src"
)

const top = 1<<64 - 1

// edges are numbers at which an operation may turn.
var edges = []uint64{0, 1, 2, 3, 5, 7, 31, 32, 33, 62, 63, 64, 65, 127, 128, 129, 1 << 31, 1<<32 - 1, 1 << 32, 1<<32 + 1, 0x123456789abcdef, 1<<63 - 1, 1 << 63, 1<<63 + 1, 1<<64 - 64, 1<<64 - 63, top - 1, top}

func holdValue(t *testing.T, e []api.Node, locals []uint64, want uint64) {
	t.Helper()
	if v, bad := src.Value(e, locals); v != want || bad != api.OK {
		t.Fatalf("P13.1: the value of %.300s by %v: %d, %v; want %d", fmt.Sprint(e), locals, v, bad, want)
	}
}

func notValued(t *testing.T, what string, e []api.Node, locals []uint64) {
	t.Helper()
	if v, bad := src.Value(e, locals); v != 0 || bad != api.EARG {
		t.Errorf("P13.1, R2: %s: %d, %v; want 0, EARG", what, v, bad)
	}
}

// By the chapter's words, one by one, without a model.
func TestP13_1ValueByHand(t *testing.T) {
	for _, c := range []struct {
		op         int
		a, b, want uint64
	}{
		{api.OpMul, 6, 7, 42}, {api.OpMul, 1 << 63, 2, 0}, {api.OpMul, top, top, 1}, {api.OpMul, 1 << 32, 1<<32 + 5, 5 << 32},
		{api.OpAdd, 6, 7, 13}, {api.OpAdd, top, 1, 0}, {api.OpAdd, 1 << 63, 1<<63 + 9, 9},
		{api.OpSub, 6, 7, top}, {api.OpSub, 7, 6, 1}, {api.OpSub, 0, 1 << 63, 1 << 63},
		{api.OpShl, 1, 63, 1 << 63}, {api.OpShl, 5, 64, 5}, {api.OpShl, 5, 65, 10}, {api.OpShl, 3, 63, 1 << 63}, {api.OpShl, 5, top, 1 << 63}, {api.OpShl, 5, 1 << 32, 5}, {api.OpShl, 1, 127, 1 << 63}, {api.OpShl, 1, 128, 1},
		{api.OpShr, 1 << 63, 63, 1}, {api.OpShr, 5, 64, 5}, {api.OpShr, 5, 65, 2}, {api.OpShr, top, 1, 1<<63 - 1}, {api.OpShr, top, top, 1}, {api.OpShr, 5, 1 << 63, 5}, {api.OpShr, 1 << 63, 127, 1}, {api.OpShr, 9, 128, 9},
		{api.OpAnd, 12, 10, 8}, {api.OpXor, 12, 10, 6}, {api.OpOr, 12, 10, 14}, {api.OpAnd, top, 1 << 63, 1 << 63}, {api.OpXor, top, top, 0}, {api.OpOr, top, 0, top},
		{api.OpEq, 5, 5, 1}, {api.OpEq, 5, 5 + 1<<32, 0}, {api.OpNe, 5, 5, 0}, {api.OpNe, 5, 6, 1},
		{api.OpLt, 1, top, 1}, {api.OpLt, top, 1, 0}, {api.OpLt, 4, 4, 0}, {api.OpLe, 4, 4, 1}, {api.OpLe, 1 << 63, 1<<63 - 1, 0}, {api.OpLe, 1, 2, 1},
		{api.OpGt, top, 1, 1}, {api.OpGt, 1, top, 0}, {api.OpGt, 4, 4, 0}, {api.OpGe, 4, 4, 1}, {api.OpGe, 1<<63 - 1, 1 << 63, 0}, {api.OpGe, 2, 1, 1},
	} {
		holdValue(t, two(c.op, num(c.a), num(c.b)), nil, c.want)
		holdValue(t, two(c.op, local(2), local(0)), []uint64{c.b, 55, c.a}, c.want)
	}
	for _, c := range []struct {
		op      int
		a, want uint64
	}{
		{api.OpNeg, 0, 0}, {api.OpNeg, 1, top}, {api.OpNeg, top, 1}, {api.OpNeg, 1 << 63, 1 << 63}, {api.OpNot, 0, top}, {api.OpNot, top, 0}, {api.OpNot, 5, top - 5},
		{api.OpIs0, 0, 1}, {api.OpIs0, 1, 0}, {api.OpIs0, 1 << 32, 0}, {api.OpIs0, top, 0},
	} {
		holdValue(t, one(c.op, num(c.a)), nil, c.want)
		holdValue(t, one(c.op, local(1)), []uint64{55, c.a}, c.want)
	}
	holdValue(t, num(0), nil, 0)
	holdValue(t, num(top), []uint64{5}, top)
	holdValue(t, local(0), []uint64{9}, 9)
}

// Every operation of all pairs of edges; each with its operands' nodes in either order.
func TestP13_1ValueOfOperations(t *testing.T) {
	for _, a := range edges {
		for op := api.OpNeg; op <= api.OpIs0; op++ {
			holdValue(t, one(op, num(a)), nil, modelOne(op, a))
		}
		for _, b := range edges {
			for op := api.OpMul; op <= api.OpGe; op++ {
				want := modelTwo(op, a, b)
				holdValue(t, []api.Node{{Op: api.OpNum, Val: a}, {Op: api.OpLocal, Val: 1}, {Op: op, A: 0, B: 1}}, []uint64{7, b}, want)
				holdValue(t, []api.Node{{Op: api.OpLocal}, {Op: api.OpNum, Val: a}, {Op: op, A: 1, B: 0}}, []uint64{b}, want)
			}
		}
	}
}

// madeExpr has at least so many nodes; an operand may be any node ahead that is free.
func madeExpr(roll func(int) int, least, locals int) []api.Node {
	var l []api.Node
	var free []int
	take := func() int {
		i := roll(len(free))
		x := free[i]
		free = slices.Delete(free, i, i+1)
		return x
	}
	for len(l) < least || len(free) > 1 {
		n := api.Node{Op: 1 + roll(19)}
		if len(l) >= least {
			n.Op = api.OpMul + roll(14)
		}
		switch {
		case n.Op >= api.OpMul && len(free) > 1:
			n.A, n.B = take(), take()
		case n.Op >= api.OpNeg && n.Op < api.OpMul && len(free) > 0:
			n.A = take()
		case locals > 0 && roll(2) == 0:
			n.Op, n.Val = api.OpLocal, uint64(roll(locals))
		default:
			n.Op, n.Val = api.OpNum, edges[roll(len(edges))]
		}
		free = append(free, len(l))
		l = append(l, n)
	}
	return l
}

// Expressions of many nodes, over any number of locals, against the model.
func TestP13_1ValueOfMadeExpressions(t *testing.T) {
	roll := dice(131)
	seen := map[uint64]bool{}
	for i := range 20000 {
		locals := make([]uint64, roll(api.MaxLocals+1))
		for j := range locals {
			locals[j] = edges[roll(len(edges))] + uint64(roll(3))
		}
		e := madeExpr(roll, 1+i%30, len(locals))
		want := modelValue(e, len(e)-1, locals)
		holdValue(t, e, locals, want)
		seen[want] = true
	}
	if len(seen) < 1000 {
		t.Errorf("not all is tried: %d values", len(seen))
	}
}

// chain has so many nodes, each but the first an operation of the one ahead.
func chain(op, n int) []api.Node {
	out := local(23)
	for len(out) < n {
		out = append(out, api.Node{Op: op, A: len(out) - 1})
	}
	return out
}

// ladder has so many numbers, 0, 1, 2 .., and then what adds them up.
func ladder(n int) []api.Node {
	var out []api.Node
	for i := range n {
		out = append(out, api.Node{Op: api.OpNum, Val: uint64(i)})
	}
	last := 0
	for i := 1; i < n; i++ {
		out = append(out, api.Node{Op: api.OpAdd, A: i, B: last})
		last = len(out) - 1
	}
	return out
}

// At the limits: MaxText nodes, MaxLocals locals.
func TestP13_1ValueAtLimits(t *testing.T) {
	locals := make([]uint64, api.MaxLocals)
	for i := range locals {
		locals[i] = uint64(100 + i)
	}
	for i := range locals {
		holdValue(t, local(i), locals, uint64(100+i))
		notValued(t, "a local behind the last", local(i), locals[:i])
	}
	holdValue(t, chain(api.OpNot, api.MaxText), locals, ^uint64(123))
	holdValue(t, chain(api.OpNeg, api.MaxText-1), locals, 123)
	notValued(t, "more nodes than there may be", chain(api.OpNot, api.MaxText+1), locals)
	holdValue(t, ladder(api.MaxText/2), nil, uint64(api.MaxText/2*(api.MaxText/2-1)/2))
	notValued(t, "more nodes than there may be", ladder(api.MaxText/2+1), nil)
	holdValue(t, num(5), locals, 5)
	for _, n := range []int{api.MaxLocals + 1, 100, 1000} {
		notValued(t, fmt.Sprint(n, " locals"), num(5), make([]uint64, n))
		notValued(t, fmt.Sprint(n, " locals"), local(0), make([]uint64, n))
	}
}

// Nodes that are no expression.
func TestP13_1ValueOfNoExpression(t *testing.T) {
	five := api.Node{Op: api.OpNum, Val: 5}
	for i, e := range [][]api.Node{
		nil, {}, {{}}, {five, five}, {{Op: 20}}, {{Op: -1}}, {{Op: math.MinInt}}, {{Op: math.MaxInt}}, {five, {Op: 20}}, {five, five, {Op: 20, B: 1}},
		{{Op: api.OpNum, A: 1}}, {{Op: api.OpNum, B: 1}}, {{Op: api.OpNum, A: -1}}, {{Op: api.OpLocal, A: 1}}, {{Op: api.OpLocal, B: -1}}, {{Op: api.OpLocal, Val: 2}}, {{Op: api.OpLocal, Val: 1 << 63}}, {{Op: api.OpLocal, Val: top}},
		{{Op: api.OpNeg}}, {{Op: api.OpNeg, A: -1}}, {five, {Op: api.OpNeg, A: 1}}, {five, {Op: api.OpNeg, A: 2}}, {five, {Op: api.OpNot, A: math.MaxInt}}, {five, {Op: api.OpNot, A: math.MinInt}}, {five, {Op: api.OpIs0, B: 1}}, {five, {Op: api.OpIs0, Val: 1}}, {five, {Op: api.OpNeg, B: -1}},
		{{Op: api.OpAdd}}, {five, {Op: api.OpAdd}}, {five, five, {Op: api.OpAdd}}, {five, five, {Op: api.OpAdd, A: 1, B: 1}}, {five, five, {Op: api.OpAdd, A: 0, B: 2}}, {five, five, {Op: api.OpAdd, A: -1, B: 1}}, {five, five, {Op: api.OpAdd, A: 0, B: math.MaxInt}}, {five, five, {Op: api.OpAdd, A: 0, B: 1, Val: 1}},
		{five, five, {Op: api.OpNeg}}, {five, {Op: api.OpNeg}, {Op: api.OpAdd, A: 0, B: 1}}, {five, five, {Op: api.OpAdd, A: 0, B: 1}, five}, {five, {Op: api.OpNeg}, {Op: api.OpNeg}}, {{Op: api.OpNeg, A: 1}, five},
	} {
		notValued(t, fmt.Sprintf("case %d: %v", i, e), e, []uint64{7, 8})
	}
}

// What Value takes of expressions with one wrong number is just what an act may have.
func TestP13_1ValueOfNearlyExpressions(t *testing.T) {
	roll := dice(977)
	right, wrong := 0, 0
	for i := range 20000 {
		locals := []uint64{edges[roll(len(edges))], 3}
		e := madeExpr(roll, 1+i%9, 2)
		n := &e[roll(len(e))]
		switch v := roll(22) - 1; roll(4) {
		case 0:
			n.Op = v
		case 1:
			n.A = v
		case 2:
			n.B = v
		case 3:
			n.Val = uint64(v)
		}
		if modelIsExpr(e, 2) {
			right++
			holdValue(t, e, locals, modelValue(e, len(e)-1, locals))
		} else {
			wrong++
			notValued(t, fmt.Sprint(e), e, locals)
		}
	}
	if right < 1000 || wrong < 5000 {
		t.Errorf("not all is tried: %d are right, %d wrong", right, wrong)
	}
}

// modelIsExpr: from the last node on, each is reached once, from nodes behind it.
func modelIsExpr(l []api.Node, locals int) bool {
	reached := make([]int, len(l))
	todo := []int{len(l) - 1}
	for len(todo) > 0 {
		at := todo[0]
		todo = todo[1:]
		reached[at]++
		n := l[at]
		var down []int
		switch {
		case reached[at] > 1:
			return false
		case n.Op == api.OpNum && n.A == 0 && n.B == 0:
		case n.Op == api.OpLocal && n.A == 0 && n.B == 0 && n.Val < uint64(locals):
		case n.Op >= api.OpNeg && n.Op <= api.OpIs0 && n.B == 0 && n.Val == 0:
			down = []int{n.A}
		case n.Op >= api.OpMul && n.Op <= api.OpGe && n.Val == 0:
			down = []int{n.A, n.B}
		default:
			return false
		}
		for _, d := range down {
			if d < 0 || d >= at {
				return false
			}
			todo = append(todo, d)
		}
	}
	return !slices.Contains(reached, 0)
}

// What is handed to Value stays as it is, and the room behind a list is not looked at.
func TestR4ValueChangesNothing(t *testing.T) {
	roll := dice(53)
	for i := range 200 {
		e := append(madeExpr(roll, 1+i%7, 3), api.Node{Op: 1}, api.Node{Op: 77, A: 5})
		locals := []uint64{4, 5, 6, 7, 8}
		was, were := slices.Clone(e), slices.Clone(locals)
		n := len(e) - 2
		if i%4 == 0 {
			notValued(t, "a node too many", e[:n+1], locals[:3])
		} else {
			holdValue(t, e[:n], locals[:3], modelValue(e, n-1, locals))
		}
		if !slices.Equal(e, was) || !slices.Equal(locals, were) {
			t.Fatalf("R4: %v by %v is changed", was, were)
		}
	}
}
