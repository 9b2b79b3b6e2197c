package check_test

import (
	"fmt"
	"strings"
	"testing"

	"sextant/api"
)

// trace is what a thread does: each access, fence, output and condition, until it halts or has done enough. What is read hangs on how much was done ahead.
type trace struct {
	done []string
	room int
}

type enough struct{}

func (r *trace) note(parts ...any) uint64 {
	if len(r.done) == r.room {
		panic(enough{})
	}
	r.done = append(r.done, fmt.Sprint(parts...))
	return uint64(len(r.done)*len(r.done)) % 5
}

func (r *trace) run(f func()) {
	defer func() {
		if x := recover(); x != nil {
			if _, ok := x.(enough); !ok {
				panic(x)
			}
		}
	}()
	f()
	r.note("halt")
}

// value is that of an operation, by the operands' values.
func value(op int, a, b uint64) uint64 {
	is := func(c bool) uint64 {
		if c {
			return 1
		}
		return 0
	}
	return map[int]func() uint64{
		api.OpNeg: func() uint64 { return -a }, api.OpNot: func() uint64 { return ^a }, api.OpIs0: func() uint64 { return is(a == 0) },
		api.OpMul: func() uint64 { return a * b }, api.OpAdd: func() uint64 { return a + b }, api.OpSub: func() uint64 { return a - b },
		api.OpShl: func() uint64 { return a << (b % 64) }, api.OpShr: func() uint64 { return a >> (b % 64) },
		api.OpAnd: func() uint64 { return a & b }, api.OpXor: func() uint64 { return a ^ b }, api.OpOr: func() uint64 { return a | b },
		api.OpEq: func() uint64 { return is(a == b) }, api.OpNe: func() uint64 { return is(a != b) }, api.OpLt: func() uint64 { return is(a < b) },
		api.OpLe: func() uint64 { return is(a <= b) }, api.OpGt: func() uint64 { return is(a > b) }, api.OpGe: func() uint64 { return is(a >= b) },
	}[op]()
}

// typed runs a thread as it was typed: names by names.
type typed struct {
	*trace
	shared []api.Shared
	vals   map[string]uint64
}

func (m typed) expr(e api.Expr) uint64 {
	switch len(e.Args) {
	case 1:
		return value(e.Op, m.expr(e.Args[0]), 0)
	case 2:
		return value(e.Op, m.expr(e.Args[0]), m.expr(e.Args[1]))
	}
	if e.Op == api.OpLocal {
		return m.vals[e.Name]
	}
	return e.Val
}

func (m typed) cell(p api.Place) uint64 {
	at := uint64(0)
	for _, s := range m.shared {
		if s.Name != p.Name {
			at += uint64(max(1, s.Size))
		} else if s.Size == 0 {
			return at
		} else {
			return at + m.expr(p.Index[0])%uint64(s.Size)
		}
	}
	panic("no such name")
}

func (m typed) stmts(list []api.Stmt) {
	for _, s := range list {
		m.stmt(s)
	}
}

func (m typed) stmt(s api.Stmt) {
	switch s.Kind {
	case api.SSet:
		m.vals[s.Name] = m.expr(s.Args[0])
	case api.SLoad:
		m.vals[s.Name] = m.note("load ", m.cell(s.Place), " ", s.Mode)
	case api.SStore:
		m.note("store ", m.cell(s.Place), " ", m.expr(s.Args[0]), " ", s.Mode)
	case api.SXchg:
		m.vals[s.Name] = m.note("xchg ", m.cell(s.Place), " ", m.expr(s.Args[0]), " ", s.Mode)
	case api.SFadd:
		m.vals[s.Name] = m.note("fadd ", m.cell(s.Place), " ", m.expr(s.Args[0]), " ", s.Mode)
	case api.SCas:
		m.vals[s.Name] = m.note("cas ", m.cell(s.Place), " ", m.expr(s.Args[0]), " ", m.expr(s.Args[1]), " ", s.Mode)
	case api.SFence:
		m.note("fence ", s.Mode)
	case api.SPrint:
		m.note("print ", m.expr(s.Args[0]))
	case api.SIf:
		if m.holds(s.Args[0]) {
			m.stmts(s.Body)
		} else {
			m.stmts(s.Else)
		}
	case api.SWhile:
		for m.holds(s.Args[0]) {
			m.stmts(s.Body)
		}
	}
}

func (m typed) holds(e api.Expr) bool {
	v := m.expr(e)
	m.note("if ", v)
	return v != 0
}

// laid runs a thread by its acts.
type laid struct {
	*trace
	vals []uint64
}

func (m laid) expr(l []api.Node) uint64 {
	var vals []uint64
	for _, n := range l {
		switch n.Op {
		case api.OpNum:
			vals = append(vals, n.Val)
		case api.OpLocal:
			vals = append(vals, m.vals[n.Val])
		default:
			vals = append(vals, value(n.Op, vals[n.A], vals[n.B]))
		}
	}
	return vals[len(vals)-1]
}

func (m laid) cell(a api.Act) uint64 {
	if a.Size == 0 {
		return uint64(a.Base)
	}
	return uint64(a.Base) + m.expr(a.Index)%uint64(a.Size)
}

func (m laid) acts(list []api.Act) {
	for at := 0; at < len(list); {
		at = m.act(at, list[at])
	}
}

func (m laid) act(at int, a api.Act) int {
	switch a.Op {
	case api.ActSet:
		m.vals[a.Dst] = m.expr(a.E)
	case api.ActLoad:
		m.vals[a.Dst] = m.note("load ", m.cell(a), " ", a.Mode)
	case api.ActStore:
		m.note("store ", m.cell(a), " ", m.expr(a.E), " ", a.Mode)
	case api.ActXchg:
		m.vals[a.Dst] = m.note("xchg ", m.cell(a), " ", m.expr(a.E), " ", a.Mode)
	case api.ActFadd:
		m.vals[a.Dst] = m.note("fadd ", m.cell(a), " ", m.expr(a.E), " ", a.Mode)
	case api.ActCas:
		m.vals[a.Dst] = m.note("cas ", m.cell(a), " ", m.expr(a.E), " ", m.expr(a.F), " ", a.Mode)
	case api.ActFence:
		m.note("fence ", a.Mode)
	case api.ActPrint:
		m.note("print ", m.expr(a.E))
	case api.ActJump:
		return a.To
	case api.ActZero:
		v := m.expr(a.E)
		m.note("if ", v)
		if v == 0 {
			return a.To
		}
	}
	return at + 1
}

// A thread does by its acts what it does by its text.
func TestP7_2ActsDoWhatWasTyped(t *testing.T) {
	const room = 200
	halts, goesOn, long := 0, 0, 0
	for i := range 3000 {
		m := &maker{roll: dice(uint64(900000 + i))}
		x := m.tree(2 + i%4)
		if faultOf(x).Code != api.OK {
			continue
		}
		p := taken(t, x)
		for j, list := range x.Threads {
			a, b := &trace{room: room}, &trace{room: room}
			a.run(func() { typed{a, x.Shared, map[string]uint64{}}.stmts(list) })
			b.run(func() { laid{b, make([]uint64, p.Threads[j].Locals)}.acts(p.Threads[j].Acts) })
			if one, other := strings.Join(a.done, "; "), strings.Join(b.done, "; "); one != other {
				t.Fatalf("P7.2: %+v:\n%s\nby its acts:\n%s", list, one, other)
			}
			if len(a.done) == room {
				goesOn++
			} else {
				halts++
			}
			if len(a.done) > 10 {
				long++
			}
		}
	}
	if halts < 2000 || goesOn < 100 || long < 500 {
		t.Errorf("not all is tried: %d threads halt, %d go on, %d do more than a little", halts, goesOn, long)
	}
}
