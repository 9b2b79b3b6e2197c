package check

import "sextant/api"

// layout is a thread, as far as it has been looked at. What looks tells whether to go on; where not, the fault stands here.
type layout struct {
	shared map[string]room
	locals map[string]int
	lay    func(a api.Act) int // puts an act behind the others, and hands out its number
	land   func(act int)       // lets an act go on behind those that are laid
	fault  api.Fault
}

// layOut makes a thread of its statements.
func layOut(list []api.Stmt, shared map[string]room) (api.Thread, api.Fault) {
	var laid []api.Act
	l := layout{shared: shared, locals: map[string]int{}}
	l.lay = func(a api.Act) int {
		laid = append(laid, a)
		return len(laid) - 1
	}
	l.land = func(act int) { laid[act].To = len(laid) }
	if !l.stmts(list) {
		return api.Thread{}, l.fault
	}
	return api.Thread{Locals: len(l.locals), Acts: laid}, api.Fault{}
}

// refuse keeps the fault.
func (l *layout) refuse(code api.Errno, line, col int) bool {
	l.fault = api.Fault{Code: code, Line: line, Col: col}
	return false
}

func (l *layout) stmts(list []api.Stmt) bool {
	for _, s := range list {
		if !l.stmt(s) {
			return false
		}
	}
	return true
}

func (l *layout) stmt(s api.Stmt) bool {
	a, ok := l.act(s)
	if !ok {
		return false
	}
	first := l.lay(a)
	switch s.Kind {
	case api.SIf:
		return l.choice(s, first)
	case api.SWhile:
		return l.loop(s, first)
	}
	return true
}

// choice lays what stands behind an if's ActZero.
func (l *layout) choice(s api.Stmt, zero int) bool {
	if !l.stmts(s.Body) {
		return false
	}
	last := zero
	if len(s.Else) > 0 {
		last = l.lay(api.Act{Op: api.ActJump, Line: s.Line, Col: s.Col})
		l.land(zero)
	}
	if !l.stmts(s.Else) {
		return false
	}
	l.land(last)
	return true
}

// loop lays what stands behind a while's ActZero.
func (l *layout) loop(s api.Stmt, zero int) bool {
	if !l.stmts(s.Body) {
		return false
	}
	l.lay(api.Act{Op: api.ActJump, To: zero, Line: s.Line, Col: s.Col})
	l.land(zero)
	return true
}

// act looks at a statement's own parts, in their order, and makes its act, or its first one. That it has just the parts of its kind, lang.Whole has seen to.
func (l *layout) act(s api.Stmt) (api.Act, bool) {
	a := api.Act{Op: acts[s.Kind], Mode: s.Mode, Line: s.Line, Col: s.Col}
	f := forms[a.Op]
	if f.place && !l.place(s.Place, &a) {
		return a, false
	}
	var exprs [2][]api.Node
	for i, e := range s.Args {
		if !l.expr(e, &exprs[i]) {
			return a, false
		}
	}
	a.E, a.F = exprs[0], exprs[1]
	if !f.may(s.Mode) {
		return a, l.refuse(api.EMODE, s.MLine, s.MCol)
	}
	return a, !f.sets || l.set(s, &a)
}

func (l *layout) place(at api.Place, a *api.Act) bool {
	c, ok := l.shared[at.Name]
	if !ok || len(at.Index) > 0 != (c.size > 0) {
		return l.refuse(api.ENAME, at.Line, at.Col)
	}
	a.Base, a.Size = c.base, c.size
	return c.size == 0 || l.expr(at.Index[0], &a.Index)
}

// set looks at the name that a statement sets.
func (l *layout) set(s api.Stmt, a *api.Act) bool {
	_, shared := l.shared[s.Name]
	local, known := l.locals[s.Name]
	code := api.OK
	switch {
	case s.Let && (shared || known):
		code = api.ETWICE
	case s.Let && len(l.locals) == api.MaxLocals:
		code = api.ELOCALS
	case !s.Let && !known:
		code = api.ENAME
	}
	if code != api.OK {
		return l.refuse(code, s.Line, s.Col)
	}
	if s.Let {
		local = len(l.locals)
		l.locals[s.Name] = local
	}
	a.Dst = local
	return true
}

// expr puts the nodes of an expression behind the list, its root the last.
func (l *layout) expr(e api.Expr, list *[]api.Node) bool {
	n := api.Node{Op: e.Op, Val: e.Val}
	if e.Op == api.OpLocal {
		local, ok := l.locals[e.Name]
		if !ok {
			return l.refuse(api.ENAME, e.Line, e.Col)
		}
		n.Val = uint64(local)
	}
	var ends [2]int // the operands' last nodes
	for i, operand := range e.Args {
		if !l.expr(operand, list) {
			return false
		}
		ends[i] = len(*list) - 1
	}
	n.A, n.B = ends[0], ends[1]
	*list = append(*list, n)
	return true
}
