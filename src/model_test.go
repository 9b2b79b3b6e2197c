package src_test

import (
	"math/big"
	"slices"

	"sextant/api"
)

// The model of a thread, by the chapter's words: it does its acts one behind the other, from the first to the last, and asks a world for what it wants. Whole numbers have no bound, but for what is told; an expression is gone down from its last node.

var (
	bound = new(big.Int).Lsh(big.NewInt(1), 64)
	most  = new(big.Int).Sub(bound, big.NewInt(1))
)

func whole(v uint64) *big.Int { return new(big.Int).SetUint64(v) }

// wrapped is a number modulo 2^64, at least 0.
func wrapped(v *big.Int) uint64 { return new(big.Int).Mod(v, bound).Uint64() }

func oneIf(b bool) *big.Int {
	if b {
		return big.NewInt(1)
	}
	return big.NewInt(0)
}

// modelOne is an operation of one operand.
func modelOne(op int, a uint64) uint64 {
	x := whole(a)
	switch op {
	case api.OpNeg:
		return wrapped(x.Neg(x))
	case api.OpNot:
		return wrapped(x.Sub(most, x))
	case api.OpIs0:
		return oneIf(x.Sign() == 0).Uint64()
	}
	panic("no operation of one")
}

// modelTwo is an operation of two operands.
func modelTwo(op int, a, b uint64) uint64 {
	x, y := whole(a), whole(b)
	by := uint(b % 64)
	r := new(big.Int)
	switch op {
	case api.OpMul:
		r.Mul(x, y)
	case api.OpAdd:
		r.Add(x, y)
	case api.OpSub:
		r.Sub(x, y)
	case api.OpShl:
		r.Lsh(x, by)
	case api.OpShr:
		r.Rsh(x, by)
	case api.OpAnd:
		r.And(x, y)
	case api.OpXor:
		r.Xor(x, y)
	case api.OpOr:
		r.Or(x, y)
	default:
		c := x.Cmp(y)
		r = oneIf(map[int]bool{api.OpEq: c == 0, api.OpNe: c != 0, api.OpLt: c < 0, api.OpLe: c <= 0, api.OpGt: c > 0, api.OpGe: c >= 0}[op])
	}
	return wrapped(r)
}

// modelValue is that of the node at the number, and so of an expression, if that is the last one's.
func modelValue(e []api.Node, at int, locals []uint64) uint64 {
	switch n := e[at]; {
	case n.Op == api.OpNum:
		return n.Val
	case n.Op == api.OpLocal:
		return locals[n.Val]
	case n.Op <= api.OpIs0:
		return modelOne(n.Op, modelValue(e, n.A, locals))
	default:
		return modelTwo(n.Op, modelValue(e, n.A, locals), modelValue(e, n.B, locals))
	}
}

// The modes of an RMW's read and of its write.
var (
	readModes  = map[int]int{api.Rlx: api.Rlx, api.Acq: api.Acq, api.Rel: api.Rlx, api.AcqRel: api.Acq, api.SC: api.SC}
	writeModes = map[int]int{api.Rlx: api.Rlx, api.Acq: api.Rlx, api.Rel: api.Rel, api.AcqRel: api.Rel, api.SC: api.SC}
)

// world is what a thread of the model is in. begin is told of each act that comes, ask what it wants; both may leave by a panic with stop. end is told that it halts.
type world struct {
	begin func(a api.Act)
	ask   func(w api.Want, locals []uint64) uint64
	end   func(locals []uint64)
}

type stop struct{}

// live lets a thread live in a world.
func live(t api.Thread, in world) {
	defer func() {
		if x := recover(); x != nil && x != any(stop{}) {
			panic(x)
		}
	}()
	locals := make([]uint64, t.Locals)
	for at := 0; at < len(t.Acts); {
		in.begin(t.Acts[at])
		at = modelAct(t.Acts[at], at, locals, in)
	}
	in.end(locals)
}

// modelAct does an act, and tells which one comes next.
func modelAct(a api.Act, at int, locals []uint64, in world) int {
	v := func(e []api.Node) uint64 { return modelValue(e, len(e)-1, locals) }
	cell := func() int {
		if a.Size == 0 {
			return a.Base
		}
		return a.Base + int(new(big.Int).Mod(whole(v(a.Index)), big.NewInt(int64(a.Size))).Int64())
	}
	ask := func(w api.Want) uint64 { return in.ask(w, slices.Clone(locals)) }
	switch a.Op {
	case api.ActSet:
		locals[a.Dst] = v(a.E)
	case api.ActJump:
		return a.To
	case api.ActZero:
		if v(a.E) == 0 {
			return a.To
		}
	case api.ActPrint:
		ask(api.Want{What: api.WantPrint, Val: v(a.E)})
	case api.ActFence:
		ask(api.Want{What: api.WantFence, Mode: a.Mode})
	case api.ActStore:
		ask(api.Want{What: api.WantStore, Loc: cell(), Val: v(a.E), Mode: a.Mode})
	case api.ActLoad:
		locals[a.Dst] = ask(api.Want{What: api.WantLoad, Loc: cell(), Mode: a.Mode})
	default:
		old := ask(api.Want{What: api.WantLoad, Loc: cell(), Mode: readModes[a.Mode], Ex: true})
		store := api.Want{What: api.WantStore, Loc: cell(), Mode: writeModes[a.Mode], Ex: true}
		switch e := v(a.E); {
		case a.Op == api.ActXchg:
			store.Val = e
			ask(store)
		case a.Op == api.ActFadd:
			store.Val = wrapped(whole(old).Add(whole(old), whole(e)))
			ask(store)
		case old == e:
			store.Val = v(a.F)
			ask(store)
		}
		locals[a.Dst] = old
	}
	return at + 1
}

func isSilent(op int) bool { return op == api.ActSet || op == api.ActJump || op == api.ActZero }

// modelReplay is Replay of what is not refused.
func modelReplay(t api.Thread, thread int, reads []uint64, fuel int) api.Run {
	var r api.Run
	in := world{}
	in.begin = func(api.Act) {
		if fuel == 0 {
			r.State = api.Spent
			panic(stop{})
		}
		fuel--
	}
	in.ask = func(w api.Want, _ []uint64) uint64 {
		e := api.Event{Thread: thread, Loc: w.Loc, Val: w.Val, Mode: w.Mode}
		switch w.What {
		case api.WantPrint:
			r.Outs = append(r.Outs, w.Val)
			return 77
		case api.WantFence:
			e.Kind, e.Loc = api.Fence, -1
		case api.WantStore:
			e.Kind = api.Write
			if w.Ex {
				r.Rmw = append(r.Rmw, api.Pair{A: len(r.Events) - 1, B: len(r.Events)})
			}
		case api.WantLoad:
			if r.Used == len(reads) {
				r.State, r.Loc = api.Hungry, w.Loc
				panic(stop{})
			}
			e.Kind, e.Val = api.Read, reads[r.Used]
			r.Used++
		}
		r.Events = append(r.Events, e)
		return e.Val
	}
	in.end = func([]uint64) { r.State = api.Halted }
	live(t, in)
	return r
}

// stand is a place at which a machine stands, asked: what it wants, its locals, and what it is fed.
type stand struct {
	want   api.Want
	locals []uint64
	fed    uint64
}

// modelStands are the first so many of a thread, halting too, fed by the function; but none behind so many silent acts without anything wanted: goesOn is told of such.
func modelStands(t api.Thread, many, silent int, feed func() uint64) (out []stand, goesOn bool) {
	since := 0
	in := world{}
	in.begin = func(a api.Act) {
		if since == silent && isSilent(a.Op) {
			goesOn = true
			panic(stop{})
		}
		since++
	}
	in.ask = func(w api.Want, locals []uint64) uint64 {
		if len(out) == many {
			panic(stop{})
		}
		since = 0
		s := stand{want: w, locals: locals, fed: feed()}
		out = append(out, s)
		return s.fed
	}
	in.end = func(locals []uint64) {
		if len(out) < many {
			out = append(out, stand{want: wantHalt, locals: locals})
		}
	}
	live(t, in)
	return out, goesOn
}
