package lang_test

import (
	"fmt"
	"strings"
	"testing"

	"sextant/api"
	"sextant/lang"
)

// layout is the text of a tree by the chapter's words. (The model of Print.)
func layout(t api.Tree) string {
	var lines []string
	for _, s := range t.Shared {
		switch s.Size {
		case 0:
			lines = append(lines, "shared "+s.Name+";")
		case -1:
			lines = append(lines, "shared "+s.Name+"[0];")
		default:
			lines = append(lines, fmt.Sprintf("shared %s[%d];", s.Name, s.Size))
		}
	}
	for _, l := range t.Threads {
		lines = append(lines, "thread {")
		lines = append(lines, stmtLines(l)...)
		lines = append(lines, "}")
	}
	return strings.Join(append(lines, ""), "\n")
}

func stmtLines(l []api.Stmt) []string {
	var out []string
	for _, s := range l {
		for _, line := range linesOf(s) {
			out = append(out, "\t"+line)
		}
	}
	return out
}

func linesOf(s api.Stmt) []string {
	var args []string
	for _, e := range s.Args {
		args = append(args, exprText(e))
	}
	first := s.Name + " = "
	if s.Let {
		first = "let " + first
	}
	at := s.Place.Name
	if len(s.Place.Index) > 0 {
		at += "[" + exprText(s.Place.Index[0]) + "]"
	}
	mode := modeWords[s.Mode]
	switch s.Kind {
	case api.SSet:
		return []string{first + args[0] + ";"}
	case api.SLoad:
		return []string{first + "load(" + at + ", " + mode + ");"}
	case api.SStore:
		return []string{"store(" + at + ", " + args[0] + ", " + mode + ");"}
	case api.SXchg:
		return []string{first + "xchg(" + at + ", " + args[0] + ", " + mode + ");"}
	case api.SFadd:
		return []string{first + "fadd(" + at + ", " + args[0] + ", " + mode + ");"}
	case api.SCas:
		return []string{first + "cas(" + at + ", " + args[0] + ", " + args[1] + ", " + mode + ");"}
	case api.SFence:
		return []string{"fence(" + mode + ");"}
	case api.SPrint:
		return []string{"print(" + args[0] + ");"}
	}
	word := map[int]string{api.SIf: "if", api.SWhile: "while"}[s.Kind]
	out := append([]string{word + " (" + args[0] + ") {"}, stmtLines(s.Body)...)
	if len(s.Else) > 0 {
		out = append(append(out, "} else {"), stmtLines(s.Else)...)
	}
	return append(out, "}")
}

func exprText(e api.Expr) string {
	isTwo := func(x api.Expr) bool { return len(x.Args) == 2 }
	inside := func(x api.Expr, brackets bool) string {
		if brackets {
			return "(" + exprText(x) + ")"
		}
		return exprText(x)
	}
	sign := signOf(e.Op)
	switch len(e.Args) {
	case 1:
		return sign + inside(e.Args[0], isTwo(e.Args[0]))
	case 2:
		a, b := e.Args[0], e.Args[1]
		return inside(a, isTwo(a) && levelOf(signOf(a.Op)) < levelOf(sign)) + " " + sign + " " +
			inside(b, isTwo(b) && levelOf(signOf(b.Op)) <= levelOf(sign))
	}
	if e.Op == api.OpLocal {
		return e.Name
	}
	return fmt.Sprint(e.Val)
}

// printed holds what Print tells of a tree against the model, and what Parse reads of that against the tree.
func printed(t *testing.T, x api.Tree) string {
	t.Helper()
	want := layout(x)
	got, e := lang.Print(x)
	if e != api.OK || got != want {
		t.Fatalf("P6.4: %q, %v; want %q", got, e, want)
	}
	y, f := lang.Parse([]byte(got))
	if f != (api.Fault{}) || !alike(x, y) || !lang.Same(x, y) {
		t.Fatalf("P6.6, T4: %q is read as %+v, %v; it was told of %+v", got, y, f, x)
	}
	return got
}

// naive is a text for a tree, whatever that is, with brackets around each operand: if any program has the tree, this one has it.
func naive(t api.Tree) string {
	var s strings.Builder
	for _, d := range t.Shared {
		switch d.Size {
		case 0:
			fmt.Fprintf(&s, "shared %s;", d.Name)
		case -1:
			fmt.Fprintf(&s, "shared %s[0];", d.Name)
		default:
			fmt.Fprintf(&s, "shared %s[%d];", d.Name, d.Size)
		}
	}
	for _, l := range t.Threads {
		s.WriteString("thread " + naiveBlock(l))
	}
	return s.String()
}

func naiveBlock(l []api.Stmt) string {
	s := "{"
	for _, x := range l {
		s += naiveStmt(x)
	}
	return s + "}"
}

func naiveStmt(s api.Stmt) string {
	set := s.Name + "="
	if s.Let {
		set = "let " + set
	}
	var parts []string
	switch s.Kind {
	case api.SLoad, api.SStore, api.SXchg, api.SFadd, api.SCas:
		parts = append(parts, naivePlace(s.Place))
	}
	for _, e := range s.Args {
		parts = append(parts, naiveExpr(e))
	}
	if s.Mode > 0 && s.Mode < len(modeWords) {
		parts = append(parts, modeWords[s.Mode])
	}
	list := "(" + strings.Join(parts, ",") + ")"
	switch s.Kind {
	case api.SSet:
		return set + strings.Join(parts, ",") + ";"
	case api.SLoad:
		return set + "load" + list + ";"
	case api.SStore:
		return "store" + list + ";"
	case api.SXchg:
		return set + "xchg" + list + ";"
	case api.SFadd:
		return set + "fadd" + list + ";"
	case api.SCas:
		return set + "cas" + list + ";"
	case api.SFence:
		return "fence" + list + ";"
	case api.SPrint:
		return "print" + list + ";"
	case api.SIf:
		return "if" + list + naiveBlock(s.Body) + "else" + naiveBlock(s.Else)
	case api.SWhile:
		return "while" + list + naiveBlock(s.Body)
	}
	return "$"
}

func naivePlace(p api.Place) string {
	s := p.Name
	for _, e := range p.Index {
		s += "[" + naiveExpr(e) + "]"
	}
	return s
}

func naiveExpr(e api.Expr) string {
	switch sign := signOf(e.Op); {
	case e.Op == api.OpNum:
		return fmt.Sprint(e.Val)
	case e.Op == api.OpLocal:
		return e.Name
	case sign != "" && len(e.Args) == 1:
		return sign + "(" + naiveExpr(e.Args[0]) + ")"
	case sign != "" && len(e.Args) == 2:
		return "(" + naiveExpr(e.Args[0]) + ")" + sign + "(" + naiveExpr(e.Args[1]) + ")"
	}
	return "$"
}

// hasProgram: does any program have the tree? (The model of Whole, for trees that are not deep.)
func hasProgram(x api.Tree) bool {
	y, f := lang.Parse([]byte(naive(x)))
	return f.Code == api.OK && alike(x, y)
}
