package lang

import (
	"strconv"
	"strings"

	"sextant/api"
)

// printer writes the text of a whole tree. What nests too deep leaves it by a panic with EDEEP: that is told ahead of a text that is too long, however much of it there is.
type printer struct {
	text  []byte
	size  int // of all that was to be written: of a text that is too long the rest is left out
	deep  int
	signs map[int]sign
}

// tell is the text, or what is against it.
func (p *printer) tell(t api.Tree) (text string, code api.Errno) {
	defer func() {
		if met, ok := recover().(api.Errno); ok {
			code = met
		}
	}()
	p.tree(t)
	if p.size > api.MaxText {
		return "", api.EBIG
	}
	return string(p.text), api.OK
}

func (p *printer) put(pieces ...string) {
	for _, s := range pieces {
		p.size += len(s)
		if p.size <= api.MaxText {
			p.text = append(p.text, s...)
		}
	}
}

// enter writes what stands around that which follows.
func (p *printer) enter(text string) {
	if p.deep == api.MaxDeep {
		panic(api.EDEEP)
	}
	p.deep++
	p.put(text)
}

// leave writes what closes that which was entered last.
func (p *printer) leave(text string) {
	p.deep--
	p.put(text)
}

// indent begins a line. Where one begins, nothing is open but blocks.
func (p *printer) indent() { p.put(strings.Repeat("\t", p.deep)) }

func (p *printer) tree(t api.Tree) {
	for _, s := range t.Shared {
		p.put("shared ", s.Name)
		if s.Size != 0 {
			p.put("[", strconv.Itoa(max(s.Size, 0)), "]")
		}
		p.put(";\n")
	}
	for _, list := range t.Threads {
		p.put("thread ")
		p.block(list)
		p.put("\n")
	}
}

func (p *printer) block(list []api.Stmt) {
	p.enter("{\n")
	for _, s := range list {
		p.indent()
		p.stmt(s)
		p.put("\n")
	}
	p.leave("")
	p.indent()
	p.put("}")
}

func (p *printer) stmt(s api.Stmt) {
	f := forms[s.Kind]
	if s.Let {
		p.put("let ")
	}
	if f.sets {
		p.put(s.Name, " = ")
	}
	if s.Kind == api.SSet {
		p.expr(s.Args[0], 0)
	} else {
		p.call(s)
	}
	if f.blocks == 0 {
		p.put(";")
		return
	}
	p.put(" ")
	p.block(s.Body)
	if len(s.Else) > 0 {
		p.put(" else ")
		p.block(s.Else)
	}
}

// call writes the word of a statement, and what stands in brackets behind it.
func (p *printer) call(s api.Stmt) {
	f := forms[s.Kind]
	p.put(f.word)
	if f.blocks > 0 {
		p.put(" ")
	}
	ahead := "("
	if f.place {
		p.put(ahead)
		p.place(s.Place)
		ahead = ", "
	}
	for _, e := range s.Args {
		p.put(ahead)
		p.expr(e, 0)
		ahead = ", "
	}
	if f.mode {
		p.put(ahead, modes[s.Mode])
	}
	p.put(")")
}

func (p *printer) place(at api.Place) {
	p.put(at.Name)
	for _, e := range at.Index {
		p.enter("[")
		p.expr(e, 0)
		p.leave("]")
	}
}

// expr writes an expression, in brackets, if its sign is weaker than that level.
func (p *printer) expr(e api.Expr, level int) {
	s := p.signs[e.Op]
	switch {
	case e.Op == api.OpNum:
		p.put(strconv.FormatUint(e.Val, 10))
	case e.Op == api.OpLocal:
		p.put(e.Name)
	case s.level < level:
		p.enter("(")
		p.expr(e, 0)
		p.leave(")")
	case len(e.Args) == 1:
		p.enter(s.text)
		p.expr(e.Args[0], s.level)
		p.leave("")
	default:
		p.expr(e.Args[0], s.level)
		p.put(" ", s.text, " ")
		p.expr(e.Args[1], s.level+1)
	}
}
