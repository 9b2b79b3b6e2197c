package check

import "sextant/api"

func wholeThread(t api.Thread, cells int) bool {
	if t.Locals < 0 || t.Locals > api.MaxLocals || len(t.Acts) > api.MaxText {
		return false
	}
	for _, a := range t.Acts {
		if a.Op < api.ActSet || a.Op > api.ActZero {
			return false
		}
		f := forms[a.Op]
		if !wholeNumbers(a, f, t) || !wholePlace(a, f, t.Locals, cells) || !wholeExprs(a, f, t.Locals) {
			return false
		}
	}
	return true
}

// wholeNumbers asks of what an act has beside its place and its expressions.
func wholeNumbers(a api.Act, f form, t api.Thread) bool {
	if f.sets && a.Dst >= t.Locals || !f.sets && a.Dst > 0 {
		return false
	}
	if f.goes && a.To > len(t.Acts) || !f.goes && a.To > 0 {
		return false
	}
	return a.Dst >= 0 && a.To >= 0 && f.may(a.Mode)
}

func wholePlace(a api.Act, f form, locals, cells int) bool {
	if !f.place {
		return a.Base == 0 && a.Size == 0 && len(a.Index) == 0
	}
	if !isSize(a.Size) || a.Base < 0 || a.Base > cells-cellsOf(a.Size) {
		return false
	}
	return wholeExpr(a.Index, a.Size > 0, locals)
}

func wholeExprs(a api.Act, f form, locals int) bool {
	return wholeExpr(a.E, f.exprs > 0, locals) && wholeExpr(a.F, f.exprs > 1, locals)
}

// wholeExpr tells whether the nodes are an expression, where there is to be one, else whether there are none.
func wholeExpr(list []api.Node, wanted bool, locals int) bool {
	if !wanted {
		return len(list) == 0
	}
	if len(list) == 0 || len(list) > api.MaxText {
		return false
	}
	free := make([]bool, len(list)) // of the nodes so far: those that are no operand as yet
	left := 0
	for i, n := range list {
		if !wholeNode(n, locals) {
			return false
		}
		for _, x := range []int{n.A, n.B}[:operands(n.Op)] {
			if x < 0 || x >= i || !free[x] {
				return false
			}
			free[x] = false
		}
		free[i] = true
		left += 1 - operands(n.Op)
	}
	return left == 1
}

// wholeNode asks of all but which nodes are the operands.
func wholeNode(n api.Node, locals int) bool {
	switch operands(n.Op) {
	case 0:
		return n.A == 0 && n.B == 0 && (n.Op == api.OpNum || n.Val < uint64(locals))
	case 1:
		return n.B == 0 && n.Val == 0
	case 2:
		return n.Val == 0
	}
	return false
}

// operands is how many an operation has; -1, if it is none.
func operands(op int) int {
	switch {
	case op == api.OpNum || op == api.OpLocal:
		return 0
	case op == api.OpNeg || op == api.OpNot || op == api.OpIs0:
		return 1
	case api.OpMul <= op && op <= api.OpGe:
		return 2
	}
	return -1
}
