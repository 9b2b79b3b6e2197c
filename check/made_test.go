package check_test

import (
	"fmt"
	"testing"

	"sextant/api"
	"sextant/check"
	"sextant/lang"
)

// maker makes trees that are right, but where a throw of wrong, one in so many, lets it take anything.
type maker struct {
	roll   func(int) int
	wrong  int
	shared []api.Shared
	locals []string
}

func (m *maker) slips() bool { return m.wrong > 0 && m.roll(m.wrong) == 0 }

func (m *maker) anyName() string {
	return []string{"x", "y", "a", "b", "p", "q", "r", "s", "αω"}[m.roll(9)]
}

func (m *maker) tree(room int) api.Tree {
	var t api.Tree
	for i := range m.roll(5) {
		s := api.Shared{Name: fmt.Sprint("g", i), Size: []int{0, 0, 1, 4, 1024}[m.roll(5)]}
		if m.slips() {
			s.Name = m.anyName()
		}
		if m.slips() {
			s.Size = []int{-1, 3, 2048, 1 << 31, 1024}[m.roll(5)]
		}
		t.Shared = append(t.Shared, s)
	}
	if m.slips() {
		for range 4 {
			t.Shared = append(t.Shared, api.Shared{Name: fmt.Sprint("h", len(t.Shared)), Size: 1024})
		}
	}
	m.shared = t.Shared
	n := m.roll(4)
	if m.slips() {
		n = 63 + m.roll(4)
	}
	for range n {
		m.locals = nil
		t.Threads = append(t.Threads, append(m.lets(), m.block(room)...))
	}
	return t
}

// lets are none, but now and then nearly as many as there may be.
func (m *maker) lets() []api.Stmt {
	var l []api.Stmt
	if m.roll(12) == 0 {
		for range 20 + m.roll(5) {
			m.locals = append(m.locals, fmt.Sprint("l", len(l)))
			l = append(l, api.Stmt{Kind: api.SSet, Let: true, Name: fmt.Sprint("l", len(l)), Args: []api.Expr{num(1)}})
		}
	}
	return l
}

func (m *maker) block(room int) []api.Stmt {
	var l []api.Stmt
	n := m.roll(5)
	if m.slips() {
		n = 25
	}
	for range n {
		l = append(l, m.stmt(room-1))
	}
	return l
}

func (m *maker) stmt(room int) api.Stmt {
	s := api.Stmt{Kind: 1 + m.roll(10)}
	if s.Kind >= api.SIf && room < 1 || s.Kind >= api.SLoad && s.Kind <= api.SCas && len(m.shared) == 0 && !m.slips() {
		s.Kind = api.SSet
	}
	args := []int{0, 1, 0, 1, 1, 1, 2, 0, 1, 1, 1}[s.Kind]
	if s.Kind >= api.SLoad && s.Kind <= api.SCas {
		s.Place = m.place()
	}
	for range args {
		s.Args = append(s.Args, m.expr(3))
	}
	if s.Kind >= api.SLoad && s.Kind <= api.SFence {
		l := modesOf(s.Kind)
		s.Mode = l[m.roll(len(l))]
		if m.slips() {
			s.Mode = 1 + m.roll(5)
		}
	}
	if s.Kind == api.SSet || s.Kind == api.SLoad || s.Kind >= api.SXchg && s.Kind <= api.SCas {
		m.set(&s)
	}
	if s.Kind >= api.SIf {
		s.Body = m.block(room)
	}
	if s.Kind == api.SIf && m.roll(2) == 0 {
		s.Else = m.block(room)
	}
	return s
}

func (m *maker) set(s *api.Stmt) {
	full := len(m.locals) >= api.MaxLocals && m.wrong < 100
	if len(m.locals) == 0 || m.roll(2) == 0 && !full {
		s.Let, s.Name = true, fmt.Sprint("l", len(m.locals))
	} else {
		s.Name = m.locals[m.roll(len(m.locals))]
	}
	if m.slips() {
		s.Let = !s.Let
	}
	if m.slips() {
		s.Name = m.anyName()
	}
	if s.Let {
		m.locals = append(m.locals, s.Name)
	}
}

func (m *maker) place() api.Place {
	if len(m.shared) == 0 {
		return api.Place{Name: m.anyName()}
	}
	s := m.shared[m.roll(len(m.shared))]
	p := api.Place{Name: s.Name}
	if s.Size != 0 != m.slips() {
		p.Index = []api.Expr{m.expr(2)}
	}
	if m.slips() {
		p.Name = m.anyName()
	}
	return p
}

func (m *maker) expr(room int) api.Expr {
	switch kind := m.roll(5); {
	case m.slips():
		return local(m.anyName())
	case room > 0 && kind == 0:
		return one(api.OpNeg+m.roll(3), m.expr(room-1))
	case room > 0 && kind <= 2:
		a := m.expr(room - 1)
		return two(api.OpMul+m.roll(14), a, m.expr(room-1))
	case kind <= 3 && len(m.locals) > 0:
		return local(m.locals[m.roll(len(m.locals))])
	}
	return num([]uint64{0, 1, 2, 7, 1 << 63, 1<<64 - 1}[m.roll(6)])
}

// Trees that are right, and trees with some wrong things in them, against the model.
func TestP7_1P7_2MadeTrees(t *testing.T) {
	seen := map[api.Errno]int{}
	for i := range 20000 {
		m := &maker{roll: dice(uint64(7000 + i)), wrong: []int{0, 20, 60, 200, 100}[i%5]}
		x := marked(m.tree(1 + i%4))
		if i%7 == 0 {
			x.Places = x.Places[:min(len(x.Places), 1+i%80)]
		}
		if !lang.Whole(x) {
			t.Fatalf("the maker made what is not whole: %+v", x)
		}
		want := faultOf(x)
		seen[want.Code]++
		if want.Code != api.OK {
			refusedTree(t, fmt.Sprintf("%+v", x), x, want)
		} else if p, f := check.Check(x); f != want || !equal(p, progOf(x)) {
			t.Fatalf("P7.2: %+v: %+v, %v; want %+v", x, p, f, progOf(x))
		} else if !check.Whole(p) {
			t.Fatalf("P7.4: not whole: %+v", p)
		}
		if t.Failed() {
			return
		}
	}
	for code, least := range map[api.Errno]int{api.OK: 8000, api.ENAME: 1000, api.ETWICE: 100, api.EMODE: 50, api.EARRAY: 100, api.ECELLS: 100, api.ETHREADS: 50, api.ELOCALS: 20} {
		if seen[code] < least {
			t.Errorf("not all is tried: %d trees with %v", seen[code], code)
		}
	}
}
