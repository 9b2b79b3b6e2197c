package lang_test

import (
	"reflect"
	"strings"
	"testing"

	"sextant/api"
	"sextant/lang"
)

// The words of the grammar are written out once more here, so that a slip in the package's own lists is seen.
var (
	words     = strings.Fields("shared thread let load store xchg fadd cas fence print if else while rlx acq rel acqrel sc")
	allSigns  = strings.Fields("<< >> == != <= >= + - * & ^ | ~ ! < > = ( ) [ ] { } , ;")
	modeWords = []string{"", "rlx", "acq", "rel", "acqrel", "sc"}
	levels    = []string{"|", "^", "&", "== != < <= > >=", "<< >>", "+ -", "*"}
	twos      = []string{"|", "^", "&", "==", "!=", "<", "<=", ">", ">=", "<<", ">>", "+", "-", "*"}
	ones      = []string{"-", "~", "!"}
)

var twoOps = map[string]int{
	"|": api.OpOr, "^": api.OpXor, "&": api.OpAnd, "==": api.OpEq, "!=": api.OpNe, "<": api.OpLt, "<=": api.OpLe, ">": api.OpGt, ">=": api.OpGe,
	"<<": api.OpShl, ">>": api.OpShr, "+": api.OpAdd, "-": api.OpSub, "*": api.OpMul,
}

var oneOps = map[string]int{"-": api.OpNeg, "~": api.OpNot, "!": api.OpIs0}

// levelOf is the level of a sign of two operands, the weakest 0.
func levelOf(sign string) int {
	for i, l := range levels {
		for _, s := range strings.Fields(l) {
			if s == sign {
				return i
			}
		}
	}
	panic("no sign: " + sign)
}

// signOf is the sign of an operation; none of a number's and a name's.
func signOf(op int) string {
	for _, m := range []map[string]int{twoOps, oneOps} {
		for s, o := range m {
			if o == op {
				return s
			}
		}
	}
	return ""
}

func num(v uint64) api.Expr   { return api.Expr{Op: api.OpNum, Val: v} }
func local(s string) api.Expr { return api.Expr{Op: api.OpLocal, Name: s} }

func one(sign string, a api.Expr) api.Expr {
	return api.Expr{Op: oneOps[sign], Args: []api.Expr{a}}
}

func two(a api.Expr, sign string, b api.Expr) api.Expr {
	return api.Expr{Op: twoOps[sign], Args: []api.Expr{a, b}}
}

// thread is a tree with one thread.
func thread(list ...api.Stmt) api.Tree { return api.Tree{Threads: [][]api.Stmt{list}} }

// printOf is a tree whose one statement prints an expression.
func printOf(e api.Expr) api.Tree {
	return thread(api.Stmt{Kind: api.SPrint, Args: []api.Expr{e}})
}

// copies: trees with lists of their own, empty ones nil.
func copyTree(t api.Tree) api.Tree {
	return api.Tree{
		Shared:  append([]api.Shared(nil), t.Shared...),
		Places:  append([]api.Pair(nil), t.Places...),
		Threads: copyEach(t.Threads, copyStmts),
	}
}

func copyEach[T any](l []T, f func(T) T) []T {
	var out []T
	for _, x := range l {
		out = append(out, f(x))
	}
	return out
}

func copyStmts(l []api.Stmt) []api.Stmt { return copyEach(l, copyStmt) }
func copyExprs(l []api.Expr) []api.Expr { return copyEach(l, copyExpr) }

func copyStmt(s api.Stmt) api.Stmt {
	s.Place.Index, s.Args = copyExprs(s.Place.Index), copyExprs(s.Args)
	s.Body, s.Else = copyStmts(s.Body), copyStmts(s.Else)
	return s
}

func copyExpr(e api.Expr) api.Expr {
	e.Args = copyExprs(e.Args)
	return e
}

// atPlaces visits all places of a tree.
func atPlaces(t *api.Tree, f func(line, col *int)) {
	for i := range t.Shared {
		f(&t.Shared[i].Line, &t.Shared[i].Col)
	}
	for i := range t.Places {
		f(&t.Places[i].A, &t.Places[i].B)
	}
	for _, l := range t.Threads {
		atStmts(l, f)
	}
}

func atStmts(l []api.Stmt, f func(line, col *int)) {
	for i := range l {
		s := &l[i]
		f(&s.Line, &s.Col)
		f(&s.MLine, &s.MCol)
		f(&s.Place.Line, &s.Place.Col)
		atExprs(s.Place.Index, f)
		atExprs(s.Args, f)
		atStmts(s.Body, f)
		atStmts(s.Else, f)
	}
}

func atExprs(l []api.Expr, f func(line, col *int)) {
	for i := range l {
		f(&l[i].Line, &l[i].Col)
		atExprs(l[i].Args, f)
	}
}

// bare is a tree without its places.
func bare(t api.Tree) api.Tree {
	out := copyTree(t)
	out.Places = nil
	atPlaces(&out, func(line, col *int) { *line, *col = 0, 0 })
	return out
}

// alike: are the trees one, all but places, that of lists too? (The model of Same.)
func alike(a, b api.Tree) bool { return reflect.DeepEqual(bare(a), bare(b)) }

// equal: are the trees one, places too?
func equal(a, b api.Tree) bool { return reflect.DeepEqual(copyTree(a), copyTree(b)) }

// read parses a text that has no fault.
func read(t *testing.T, text string) api.Tree {
	t.Helper()
	x, f := lang.Parse([]byte(text))
	if f != (api.Fault{}) {
		t.Fatalf("%q: %v", text, f)
	}
	return x
}

// readExpr parses an expression.
func readExpr(t *testing.T, text string) api.Expr {
	t.Helper()
	return bare(read(t, "thread { print("+text+"); }")).Threads[0][0].Args[0]
}

// refused holds a text against its fault.
func refused(t *testing.T, text string, code api.Errno, line, col int) {
	t.Helper()
	x, f := lang.Parse([]byte(text))
	if f != (api.Fault{Code: code, Line: line, Col: col}) || x.Shared != nil || x.Threads != nil || x.Places != nil {
		t.Errorf("P6.1, R2: %.80q (%d bytes): %v, %v; want %v %d %d alone", text, len(text), x, f, code, line, col)
	}
}

// tell prints a tree that has a text.
func tell(t *testing.T, x api.Tree) string {
	t.Helper()
	s, e := lang.Print(x)
	if e != api.OK {
		t.Fatalf("P6.4: %v of %+v", e, x)
	}
	return s
}

// unprinted holds a tree against the reason why it has no text.
func unprinted(t *testing.T, what string, x api.Tree, code api.Errno) {
	t.Helper()
	if s, e := lang.Print(x); s != "" || e != code {
		t.Errorf("P6.4, R2: %s: %d bytes, %v; want %v alone", what, len(s), e, code)
	}
}

// dice gives numbers from 0 to n - 1 that look like chance and are the same in each run.
func dice(seed uint64) func(n int) int {
	return func(n int) int {
		seed += 0x9e3779b97f4a7c15
		z := (seed ^ seed>>30) * 0xbf58476d1ce4e5b9
		z = (z ^ z>>27) * 0x94d049bb133111eb
		return int((z ^ z>>31) % uint64(n))
	}
}
