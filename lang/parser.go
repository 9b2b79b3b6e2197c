package lang

import (
	"sextant/api"
	"sextant/lex"
)

// parser reads tokens. A token that can't follow leaves it, from however deep, by a panic with the fault.
type parser struct {
	tokens []lex.Token // those that are left: at least End, which none takes
	levels []map[string]int
	deep   int // things within one another around the token ahead
}

// read tells the whole program, or the fault that was met.
func (p *parser) read() (t api.Tree, f api.Fault) {
	defer func() {
		if met, ok := recover().(api.Fault); ok {
			f = met
		}
	}()
	return p.program(), api.Fault{}
}

// refuse leaves the parser, with a fault at the token ahead.
func (p *parser) refuse(code api.Errno) {
	at := p.tokens[0]
	panic(api.Fault{Code: code, Line: at.Line, Col: at.Col})
}

// is tells whether the token ahead has a text. Words, Signs and End have texts that no other kind has.
func (p *parser) is(text string) bool { return p.tokens[0].Text == text }

// next takes the token ahead.
func (p *parser) next() lex.Token {
	t := p.tokens[0]
	p.tokens = p.tokens[1:]
	return t
}

// takes takes the token ahead, if it has that text.
func (p *parser) takes(text string) bool {
	if !p.is(text) {
		return false
	}
	p.next()
	return true
}

// want takes the token ahead, that must have that text.
func (p *parser) want(text string) {
	if !p.takes(text) {
		p.refuse(api.ESYNTAX)
	}
}

// wantKind takes the token ahead, that must be of that kind.
func (p *parser) wantKind(kind int) lex.Token {
	if p.tokens[0].Kind != kind {
		p.refuse(api.ESYNTAX)
	}
	return p.next()
}

// enter takes the token ahead, that must have that text and stands around what follows.
func (p *parser) enter(text string) {
	if !p.is(text) {
		p.refuse(api.ESYNTAX)
	}
	if p.deep == api.MaxDeep {
		p.refuse(api.EDEEP)
	}
	p.deep++
	p.next()
}

// leave takes what closes that which was entered last.
func (p *parser) leave(text string) {
	p.want(text)
	p.deep--
}

func (p *parser) program() api.Tree {
	var t api.Tree
	for p.takes("shared") {
		t.Shared = append(t.Shared, p.decl())
		for p.takes(",") {
			t.Shared = append(t.Shared, p.decl())
		}
		p.want(";")
	}
	for p.is("thread") {
		at := p.next()
		t.Places = append(t.Places, api.Pair{A: at.Line, B: at.Col})
		t.Threads = append(t.Threads, p.block())
	}
	if p.tokens[0].Kind != lex.End {
		p.refuse(api.ESYNTAX)
	}
	return t
}

func (p *parser) decl() api.Shared {
	name := p.wantKind(lex.Name)
	s := api.Shared{Name: name.Text, Line: name.Line, Col: name.Col}
	if p.takes("[") {
		s.Size = sizeOf(p.wantKind(lex.Number).Val)
		p.want("]")
	}
	return s
}

// sizeOf is what is told of an array with so many cells.
func sizeOf(cells uint64) int {
	if cells == 0 {
		return noCells
	}
	return int(min(cells, maxSize))
}

func (p *parser) block() []api.Stmt {
	var list []api.Stmt
	p.enter("{")
	for !p.is("}") {
		list = append(list, p.stmt())
	}
	p.leave("}")
	return list
}

func (p *parser) stmt() api.Stmt {
	first := p.tokens[0]
	s := api.Stmt{Kind: kindOf(first.Text, false), Line: first.Line, Col: first.Col}
	if s.Kind == 0 {
		p.set(&s)
	} else {
		p.call(&s)
	}
	f := forms[s.Kind]
	if f.blocks == 0 {
		p.want(";")
		return s
	}
	s.Body = p.block()
	if f.blocks > 1 && p.takes("else") {
		s.Else = p.block()
	}
	return s
}

// set reads a statement that sets a name.
func (p *parser) set(s *api.Stmt) {
	s.Let = p.takes("let")
	s.Name = p.wantKind(lex.Name).Text
	p.want("=")
	s.Kind = kindOf(p.tokens[0].Text, true)
	if s.Kind == 0 {
		s.Kind = api.SSet
		s.Args = []api.Expr{p.expr(0)}
		return
	}
	p.call(s)
}

// call reads the word of a statement, and what stands in brackets behind it.
func (p *parser) call(s *api.Stmt) {
	f := forms[s.Kind]
	p.next()
	ahead := "("
	if f.place {
		p.want(ahead)
		s.Place = p.place()
		ahead = ","
	}
	for range f.args {
		p.want(ahead)
		s.Args = append(s.Args, p.expr(0))
		ahead = ","
	}
	if f.mode {
		p.want(ahead)
		p.mode(s)
	}
	p.want(")")
}

func (p *parser) place() api.Place {
	name := p.wantKind(lex.Name)
	at := api.Place{Name: name.Text, Line: name.Line, Col: name.Col}
	if p.is("[") {
		p.enter("[")
		at.Index = []api.Expr{p.expr(0)}
		p.leave("]")
	}
	return at
}

func (p *parser) mode(s *api.Stmt) {
	s.Mode = modeOf(p.tokens[0].Text)
	if s.Mode == 0 {
		p.refuse(api.ESYNTAX)
	}
	word := p.next()
	s.MLine, s.MCol = word.Line, word.Col
}

// expr reads an expression whose signs outside of brackets are of that level or of stronger ones.
func (p *parser) expr(level int) api.Expr {
	if level == len(p.levels)-1 {
		return p.operand()
	}
	left := p.expr(level + 1)
	for {
		op, ok := p.levels[level][p.tokens[0].Text]
		if !ok {
			return left
		}
		at := p.next()
		right := p.expr(level + 1)
		left = api.Expr{Op: op, Line: at.Line, Col: at.Col, Args: []api.Expr{left, right}}
	}
}

func (p *parser) operand() api.Expr {
	at := p.tokens[0]
	e := api.Expr{Line: at.Line, Col: at.Col}
	if op, ok := p.levels[len(p.levels)-1][at.Text]; ok {
		p.enter(at.Text)
		e.Op, e.Args = op, []api.Expr{p.operand()}
		p.deep--
		return e
	}
	switch at.Kind {
	case lex.Number:
		p.next()
		e.Op, e.Val = api.OpNum, at.Val
	case lex.Name:
		p.next()
		e.Op, e.Name = api.OpLocal, at.Text
	default:
		p.enter("(")
		e = p.expr(0)
		p.leave(")")
	}
	return e
}
