package src

import (
	"sextant/api"
	"sextant/check"
)

// isExpr tells whether the nodes are an expression over so many locals: if they may be what an act prints.
func isExpr(e []api.Node, locals int) bool {
	acts := []api.Act{{Op: api.ActPrint, E: e}}
	return check.Whole(api.Prog{Threads: []api.Thread{{Locals: locals, Acts: acts}}})
}

// value is that of an expression. Its nodes' operands stand ahead of them, so that no way down is needed, however deep it is.
func value(e []api.Node, locals []uint64) uint64 {
	vals := make([]uint64, len(e))
	for i, n := range e {
		switch n.Op {
		case api.OpNum:
			vals[i] = n.Val
		case api.OpLocal:
			vals[i] = locals[n.Val]
		default:
			vals[i] = operate(n.Op, vals[n.A], vals[n.B])
		}
	}
	return vals[len(vals)-1]
}

// operate is an operation of one (a) or of two.
func operate(op int, a, b uint64) uint64 {
	switch op {
	case api.OpNeg:
		return -a
	case api.OpNot:
		return ^a
	case api.OpIs0:
		return truth(a == 0)
	case api.OpMul:
		return a * b
	case api.OpAdd:
		return a + b
	case api.OpSub:
		return a - b
	case api.OpShl:
		return a << (b % 64)
	case api.OpShr:
		return a >> (b % 64)
	case api.OpAnd:
		return a & b
	case api.OpXor:
		return a ^ b
	case api.OpOr:
		return a | b
	}
	return truth(holds(op, a, b))
}

func holds(op int, a, b uint64) bool {
	switch op {
	case api.OpEq:
		return a == b
	case api.OpNe:
		return a != b
	case api.OpLt:
		return a < b
	case api.OpLe:
		return a <= b
	case api.OpGt:
		return a > b
	}
	return a >= b // OpGe
}

func truth(is bool) uint64 {
	if is {
		return 1
	}
	return 0
}
