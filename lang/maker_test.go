package lang_test

import (
	"strings"

	"sextant/api"
	"sextant/lex"
)

// maker makes programs: their tokens, and their trees, in which each place has, as its line, the number of its token, from 1 on.
type maker struct {
	roll   func(int) int
	tokens []string
}

func (m *maker) put(texts ...string) int {
	m.tokens = append(m.tokens, texts...)
	return len(m.tokens)
}

func (m *maker) pick(l ...string) string { return l[m.roll(len(l))] }

func (m *maker) name() string { return m.pick("x", "y", "r", "a1", "_", "αω", "sc_", "loads", "x2") }

func (m *maker) program(room int) api.Tree {
	var t api.Tree
	for range m.roll(3) {
		m.put("shared")
		for i := range 1 + m.roll(3) {
			if i > 0 {
				m.put(",")
			}
			t.Shared = append(t.Shared, m.decl())
		}
		m.put(";")
	}
	for range m.roll(4) {
		t.Places = append(t.Places, api.Pair{A: m.put("thread")})
		t.Threads = append(t.Threads, m.block(room))
	}
	return t
}

func (m *maker) decl() api.Shared {
	s := api.Shared{Name: m.name()}
	s.Line = m.put(s.Name)
	if m.roll(2) == 0 {
		c := []struct {
			text string
			size int
		}{{"0", -1}, {"0x0", -1}, {"1", 1}, {"008", 8}, {"0x400", 1024}, {"2147483647", 1<<31 - 1}, {"2147483648", 1 << 31}, {"2147483649", 1 << 31}, {"18446744073709551615", 1 << 31}}[m.roll(9)]
		m.put("[", c.text, "]")
		s.Size = c.size
	}
	return s
}

func (m *maker) block(room int) []api.Stmt {
	var l []api.Stmt
	m.put("{")
	for range m.roll(4) {
		l = append(l, m.stmt(room-1))
	}
	m.put("}")
	return l
}

func (m *maker) stmt(room int) api.Stmt {
	s := api.Stmt{Kind: 1 + m.roll(10)}
	if s.Kind >= api.SIf && room < 1 {
		s.Kind = api.SFence
	}
	s.Line = len(m.tokens) + 1
	switch s.Kind {
	case api.SSet:
		m.set(&s)
		s.Args = []api.Expr{m.expr(room)}
		m.put(";")
	case api.SIf, api.SWhile:
		m.put(map[int]string{api.SIf: "if", api.SWhile: "while"}[s.Kind], "(")
		s.Args = []api.Expr{m.expr(room)}
		m.put(")")
		s.Body = m.block(room)
		if s.Kind == api.SIf && m.roll(2) == 0 {
			m.put("else")
			s.Else = m.block(room)
		}
	default:
		m.access(&s, room)
	}
	return s
}

func (m *maker) set(s *api.Stmt) {
	s.Let, s.Name = m.roll(2) == 0, m.name()
	if s.Let {
		m.put("let")
	}
	m.put(s.Name, "=")
}

// access makes what has a word, brackets and no block.
func (m *maker) access(s *api.Stmt, room int) {
	f := map[int]struct {
		word             string
		sets, place, arg bool
		second, mode     bool
	}{
		api.SLoad:  {"load", true, true, false, false, true},
		api.SStore: {"store", false, true, true, false, true},
		api.SXchg:  {"xchg", true, true, true, false, true},
		api.SFadd:  {"fadd", true, true, true, false, true},
		api.SCas:   {"cas", true, true, true, true, true},
		api.SFence: {"fence", false, false, false, false, true},
		api.SPrint: {"print", false, false, true, false, false},
	}[s.Kind]
	if f.sets {
		m.set(s)
	}
	m.put(f.word, "(")
	if f.place {
		s.Place = m.place(room)
	}
	if f.arg {
		if f.place {
			m.put(",")
		}
		s.Args = append(s.Args, m.expr(room))
	}
	if f.second {
		m.put(",")
		s.Args = append(s.Args, m.expr(room))
	}
	if f.mode {
		if f.place {
			m.put(",")
		}
		s.Mode = 1 + m.roll(5)
		s.MLine = m.put(modeWords[s.Mode])
	}
	m.put(")", ";")
}

func (m *maker) place(room int) api.Place {
	p := api.Place{Name: m.name()}
	p.Line = m.put(p.Name)
	if room > 0 && m.roll(2) == 0 {
		m.put("[")
		p.Index = []api.Expr{m.expr(room - 1)}
		m.put("]")
	}
	return p
}

// expr makes operands with signs between, and the tree of these: its root is the last of the weakest signs.
func (m *maker) expr(room int) api.Expr {
	list := []api.Expr{m.operand(room)}
	var between []api.Expr
	for m.roll(2) == 0 && len(list) < 7 {
		s := m.pick(twos...)
		between = append(between, api.Expr{Op: twoOps[s], Line: m.put(s)})
		list = append(list, m.operand(room))
	}
	return split(list, between)
}

func split(list, between []api.Expr) api.Expr {
	if len(between) == 0 {
		return list[0]
	}
	root := 0
	for i, s := range between {
		if levelOf(signOf(s.Op)) <= levelOf(signOf(between[root].Op)) {
			root = i
		}
	}
	e := between[root]
	e.Args = []api.Expr{split(list[:root+1], between[:root]), split(list[root+1:], between[root+1:])}
	return e
}

func (m *maker) operand(room int) api.Expr {
	kind := m.roll(5)
	if room < 1 {
		kind = m.roll(2)
	}
	switch kind {
	case 0:
		s := m.pick("0", "7", "0x1F", "0X0", "007", "18446744073709551615", "0xffffffffffffffff", "9223372036854775808")
		l, _ := lex.Lex([]byte(s))
		return api.Expr{Op: api.OpNum, Val: l[0].Val, Line: m.put(s)}
	case 1, 2:
		s := m.name()
		return api.Expr{Op: api.OpLocal, Name: s, Line: m.put(s)}
	case 3:
		m.put("(")
		e := m.expr(room - 1)
		m.put(")")
		return e
	}
	s := m.pick(ones...)
	e := api.Expr{Op: oneOps[s], Line: m.put(s)}
	e.Args = []api.Expr{m.operand(room - 1)}
	return e
}

// render writes tokens with blanks and remarks between, and tells their places.
func render(tokens []string, roll func(int) int) (string, []api.Pair) {
	var s strings.Builder
	var at []api.Pair
	line, col := 1, 1
	write := func(text string) {
		s.WriteString(text)
		for _, r := range text {
			col++
			if r == '\n' {
				line, col = line+1, 1
			}
		}
	}
	gaps := []string{" ", "\n", "\t", " \r\n ", "  ", "// α é \U0001F600\n", "//\n//{\n\t"}
	for i, x := range tokens {
		if i > 0 && (roll(2) == 0 || !apart(tokens[i-1], x)) {
			write(gaps[roll(len(gaps))])
		}
		at = append(at, api.Pair{A: line, B: col})
		write(x)
	}
	return s.String(), at
}

// apart: are the two cut apart with nothing between?
func apart(a, b string) bool {
	l, f := lex.Lex([]byte(a + b))
	return f.Code == api.OK && len(l) == 3 && l[0].Text == a
}

// made is a program with its tree: places and all.
func made(roll func(int) int, room int) (string, api.Tree, []string) {
	m := &maker{roll: roll}
	t := m.program(room)
	text, at := render(m.tokens, roll)
	atPlaces(&t, func(line, col *int) {
		if *line > 0 {
			p := at[*line-1]
			*line, *col = p.A, p.B
		}
	})
	return text, t, m.tokens
}
