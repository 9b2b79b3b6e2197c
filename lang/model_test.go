package lang_test

import (
	"strings"
	"testing"

	"sextant/api"
	"sextant/lang"
	"sextant/lex"
)

// grammar is the chapter's, with a rule of its own for what may stand often or not at all. What counts as one thing within another ends in "pop": as many as are awaited, so deep is the token.
var grammar = map[string][]string{
	"program": {"shares threads End"},
	"shares":  {"", "shared decl decls ; shares"},
	"decls":   {"", ", decl decls"},
	"decl":    {"Name size"},
	"size":    {"", "[ Number ]"},
	"threads": {"", "thread block threads"},
	"block":   {"{ stmts } pop"},
	"stmts":   {"", "stmt stmts"},
	"stmt": {
		"let Name = right ;", "Name = right ;", "store ( place , expr , mode ) ;", "fence ( mode ) ;", "print ( expr ) ;",
		"if ( expr ) block other", "while ( expr ) block",
	},
	"other": {"", "else block"},
	"right": {
		"load ( place , mode )", "xchg ( place , expr , mode )", "fadd ( place , expr , mode )", "cas ( place , expr , expr , mode )", "expr",
	},
	"place":   {"Name index"},
	"index":   {"", "[ expr ] pop"},
	"mode":    {"rlx", "acq", "rel", "acqrel", "sc"},
	"expr":    {"operand more"},
	"more":    {"", "two expr"},
	"two":     strings.Fields("| ^ & == != < <= > >= << >> + - *"),
	"operand": {"- operand pop", "~ operand pop", "! operand pop", "Number", "Name", "( expr ) pop"},
}

// rules is the grammar, cut into symbols.
var rules = func() map[string][][]string {
	out := map[string][][]string{}
	for symbol, list := range grammar {
		for _, r := range list {
			out[symbol] = append(out[symbol], strings.Fields(r))
		}
	}
	return out
}()

// stack is what is awaited: the next symbol, and what is behind it.
type stack struct {
	next string
	rest *stack
	pops int
}

// on is the stack with symbols ahead of what was awaited.
func (s *stack) on(symbols ...string) *stack {
	for i := range symbols {
		x := &stack{next: symbols[len(symbols)-1-i], rest: s}
		if s != nil {
			x.pops = s.pops
		}
		if x.next == "pop" {
			x.pops++
		}
		s = x
	}
	return s
}

// deep is how many things stand around what is awaited.
func (s *stack) deep() int {
	if s == nil {
		return 0
	}
	return s.pops
}

// symbol is what a token is called in the grammar.
func symbol(t lex.Token) string {
	switch t.Kind {
	case lex.Name:
		return "Name"
	case lex.Number:
		return "Number"
	case lex.End:
		return "End"
	}
	return t.Text
}

// after are the stacks behind a token, by whichever rules; none, if it can't follow.
func after(s *stack, token string) []*stack {
	if s.next == "pop" {
		return after(s.rest, token)
	}
	list, ok := rules[s.next]
	if !ok && s.next == token {
		return []*stack{s.rest}
	}
	var out []*stack
	for _, r := range list {
		if len(r) > 0 && rules[r[0]] == nil && r[0] != token {
			continue // it begins with another token
		}
		out = append(out, after(s.rest.on(r...), token)...)
	}
	return out
}

// modelFault is what is to be told of tokens.
func modelFault(tokens []lex.Token) api.Fault {
	now := (*stack)(nil).on("program")
	for _, t := range tokens {
		next := after(now, symbol(t))
		switch {
		case len(next) == 0:
			return api.Fault{Code: api.ESYNTAX, Line: t.Line, Col: t.Col}
		case len(next) > 1:
			panic("the grammar has two ways on")
		case next[0].deep() > api.MaxDeep:
			return api.Fault{Code: api.EDEEP, Line: t.Line, Col: t.Col}
		}
		now = next[0]
	}
	return api.Fault{}
}

// hold holds what Parse tells of a text against the model, and tells it.
func hold(t *testing.T, text string) (api.Tree, api.Fault) {
	t.Helper()
	tokens, want := lex.Lex([]byte(text))
	if want.Code == api.OK {
		want = modelFault(tokens)
	}
	got, f := lang.Parse([]byte(text))
	if f != want {
		t.Fatalf("P6.1: %q: %v; want %v", text, f, want)
	}
	if f.Code != api.OK && (got.Shared != nil || got.Threads != nil || got.Places != nil) {
		t.Fatalf("R2: %q: %v beside %v", text, got, f)
	}
	return got, f
}
