package check_test

import (
	"slices"

	"sextant/api"
)

// The model of the order of looking: a tree is first written out as a list of looks, which are then gone through from the beginning.
type look struct {
	what      string
	name      string
	size      int // of a declaration
	index     bool
	kind      int
	mode      int
	line, col int
}

func looksOf(t api.Tree) []look {
	var out []look
	for _, s := range t.Shared {
		out = append(out, look{what: "shared", name: s.Name, size: s.Size, line: s.Line, col: s.Col})
	}
	if len(t.Threads) > 64 {
		l := look{what: "threads"}
		if len(t.Places) > 64 {
			l.line, l.col = t.Places[64].A, t.Places[64].B
		}
		out = append(out, l)
	}
	for _, l := range t.Threads {
		out = append(out, look{what: "thread"})
		out = append(out, stmtLooks(l)...)
	}
	return out
}

func stmtLooks(list []api.Stmt) []look {
	var out []look
	for _, s := range list {
		if s.Place.Name != "" {
			out = append(out, look{what: "place", name: s.Place.Name, index: len(s.Place.Index) == 1, line: s.Place.Line, col: s.Place.Col})
		}
		out = append(out, exprLooks(append(slices.Clone(s.Place.Index), s.Args...))...)
		if s.Mode != 0 {
			out = append(out, look{what: "mode", kind: s.Kind, mode: s.Mode, line: s.MLine, col: s.MCol})
		}
		if s.Let {
			out = append(out, look{what: "let", name: s.Name, line: s.Line, col: s.Col})
		} else if s.Name != "" {
			out = append(out, look{what: "local", name: s.Name, line: s.Line, col: s.Col})
		}
		out = append(append(out, stmtLooks(s.Body)...), stmtLooks(s.Else)...)
	}
	return out
}

func exprLooks(list []api.Expr) []look {
	var out []look
	for _, e := range list {
		if e.Op == api.OpLocal {
			out = append(out, look{what: "local", name: e.Name, line: e.Line, col: e.Col})
		}
		out = append(out, exprLooks(e.Args)...)
	}
	return out
}

// names are those of a program, as far as it was looked at; lists, for an order of their own.
type names struct {
	shared []string
	sizes  []int
	cells  int
	locals []string
}

// modesOf: the modes that a kind may have.
func modesOf(kind int) []int {
	switch kind {
	case api.SLoad:
		return []int{api.Rlx, api.Acq, api.SC}
	case api.SStore:
		return []int{api.Rlx, api.Rel, api.SC}
	case api.SFence:
		return []int{api.Acq, api.Rel, api.AcqRel, api.SC}
	}
	return []int{api.Rlx, api.Acq, api.Rel, api.AcqRel, api.SC}
}

func (n *names) ask(l look) api.Errno {
	at := slices.Index(n.shared, l.name)
	known := slices.Contains(n.locals, l.name)
	switch l.what {
	case "shared":
		if at >= 0 {
			return api.ETWICE
		}
		if !slices.Contains([]int{0, 1, 2, 4, 8, 16, 32, 64, 128, 256, 512, 1024}, l.size) {
			return api.EARRAY
		}
		n.shared, n.sizes = append(n.shared, l.name), append(n.sizes, l.size)
		n.cells += max(1, l.size)
		if n.cells > 4096 {
			return api.ECELLS
		}
	case "threads":
		return api.ETHREADS
	case "thread":
		n.locals = nil
	case "place":
		if at < 0 || l.index != (n.sizes[at] != 0) {
			return api.ENAME
		}
	case "mode":
		if !slices.Contains(modesOf(l.kind), l.mode) {
			return api.EMODE
		}
	case "let":
		if at >= 0 || known {
			return api.ETWICE
		}
		n.locals = append(n.locals, l.name)
		if len(n.locals) > 24 {
			return api.ELOCALS
		}
	case "local":
		if !known {
			return api.ENAME
		}
	}
	return api.OK
}

// faultOf is what is told of a tree that lang.Whole takes.
func faultOf(t api.Tree) api.Fault {
	var n names
	for _, l := range looksOf(t) {
		if code := n.ask(l); code != api.OK {
			return api.Fault{Code: code, Line: l.line, Col: l.col}
		}
	}
	return api.Fault{}
}

// The model of a program: acts are written down with labels in place of numbers; these are filled in at the end.
type lines struct {
	names  *names
	acts   []api.Act
	labels []int
	wanted []api.Pair // an act, and the label that it goes to
}

func (l *lines) label() int {
	l.labels = append(l.labels, -1)
	return len(l.labels) - 1
}

func (l *lines) here(label int) { l.labels[label] = len(l.acts) }

func (l *lines) goTo(label int, a api.Act) {
	l.wanted = append(l.wanted, api.Pair{A: len(l.acts), B: label})
	l.acts = append(l.acts, a)
}

func (l *lines) stmts(list []api.Stmt) {
	for _, s := range list {
		l.stmt(s)
	}
}

func (l *lines) stmt(s api.Stmt) {
	a := api.Act{Line: s.Line, Col: s.Col}
	zero, jump := a, a
	zero.Op, jump.Op = api.ActZero, api.ActJump
	switch {
	case s.Kind == api.SWhile:
		top, end := l.label(), l.label()
		zero.E = l.nodes(s.Args[0])
		l.here(top)
		l.goTo(end, zero)
		l.stmts(s.Body)
		l.goTo(top, jump)
		l.here(end)
	case s.Kind == api.SIf && len(s.Else) == 0:
		end := l.label()
		zero.E = l.nodes(s.Args[0])
		l.goTo(end, zero)
		l.stmts(s.Body)
		l.here(end)
	case s.Kind == api.SIf:
		other, end := l.label(), l.label()
		zero.E = l.nodes(s.Args[0])
		l.goTo(other, zero)
		l.stmts(s.Body)
		l.goTo(end, jump)
		l.here(other)
		l.stmts(s.Else)
		l.here(end)
	default:
		l.acts = append(l.acts, l.plain(s, a))
	}
}

// plain is the act of a statement without a block.
func (l *lines) plain(s api.Stmt, a api.Act) api.Act {
	a.Op = map[int]int{api.SSet: api.ActSet, api.SLoad: api.ActLoad, api.SStore: api.ActStore, api.SXchg: api.ActXchg, api.SFadd: api.ActFadd, api.SCas: api.ActCas, api.SFence: api.ActFence, api.SPrint: api.ActPrint}[s.Kind]
	a.Mode = s.Mode
	for i, n := range l.names.shared {
		if n == s.Place.Name {
			a.Size = l.names.sizes[i]
			for _, size := range l.names.sizes[:i] {
				a.Base += max(1, size)
			}
		}
	}
	for _, e := range s.Place.Index {
		a.Index = l.nodes(e)
	}
	for i, e := range s.Args {
		if i == 0 {
			a.E = l.nodes(e)
		} else {
			a.F = l.nodes(e)
		}
	}
	if s.Let {
		l.names.locals = append(l.names.locals, s.Name)
	}
	if s.Name != "" {
		a.Dst = slices.Index(l.names.locals, s.Name)
	}
	return a
}

// nodes: those of the first operand, those of the second by as much further on, the expression's own.
func (l *lines) nodes(e api.Expr) []api.Node {
	own := api.Node{Op: e.Op, Val: e.Val}
	if e.Op == api.OpLocal {
		own.Val = uint64(slices.Index(l.names.locals, e.Name))
	}
	if len(e.Args) == 0 {
		return []api.Node{own}
	}
	out := l.nodes(e.Args[0])
	ahead := len(out)
	own.A = ahead - 1
	if len(e.Args) > 1 {
		for _, n := range l.nodes(e.Args[1]) {
			if n.Op >= api.OpNeg {
				n.A += ahead
			}
			if n.Op >= api.OpMul {
				n.B += ahead
			}
			out = append(out, n)
		}
		own.B = len(out) - 1
	}
	return append(out, own)
}

// progOf is the program of a tree that has no fault.
func progOf(t api.Tree) api.Prog {
	n := &names{}
	for _, l := range looksOf(api.Tree{Shared: t.Shared}) {
		n.ask(l)
	}
	p := api.Prog{Cells: n.cells}
	for _, list := range t.Threads {
		n.locals = nil
		l := lines{names: n}
		l.stmts(list)
		for _, w := range l.wanted {
			l.acts[w.A].To = l.labels[w.B]
		}
		p.Threads = append(p.Threads, api.Thread{Locals: len(n.locals), Acts: l.acts})
	}
	return p
}
