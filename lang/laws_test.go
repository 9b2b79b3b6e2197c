package lang_test

import (
	"reflect"
	"strings"
	"testing"
	"unsafe"

	"sextant/api"
	"sextant/lang"
)

// What is read is whole; what Print tells of it hangs on the tokens alone; and that is read as the same.
func TestP6_6MadePrograms(t *testing.T) {
	roll := dice(68)
	for i := range 3000 {
		text, _, tokens := made(roll, 1+i%9)
		x := read(t, text)
		if !lang.Whole(x) {
			t.Fatalf("P6.6: not whole: %q", text)
		}
		s := printed(t, x)
		for range 3 {
			other, _ := render(tokens, roll)
			y := read(t, other)
			if tell(t, y) != s || !lang.Same(x, y) {
				t.Fatalf("P6.6: %q and %q have the same tokens", text, other)
			}
		}
		if again := tell(t, read(t, s)); again != s {
			t.Fatalf("P6.6: %q, and of its tree %q", s, again)
		}
	}
}

// Whatever Parse takes, of texts that were spoilt, too.
func TestP6_6WhateverIsTaken(t *testing.T) {
	taken := 0
	for _, p := range everything {
		list := strings.Fields(p)
		for i := range list {
			for _, w := range vocabulary[1:] {
				l := append([]string(nil), list...)
				l[i] = w
				x, f := lang.Parse([]byte(strings.Join(l, "\t")))
				if f.Code != api.OK {
					continue
				}
				taken++
				if !lang.Whole(x) {
					t.Fatalf("P6.6: not whole: %q", l)
				}
				printed(t, x)
			}
		}
	}
	if taken < 300 {
		t.Errorf("only %d were taken", taken)
	}
}

// What is read with MaxDeep brackets that leave nothing behind can be told.
func TestP6_6DeepTexts(t *testing.T) {
	for _, e := range inExpr {
		for _, n := range []int{1, 50, 99} {
			x := read(t, "thread { print("+strings.Repeat(e.open, n)+"x"+strings.Repeat(e.close, n)+"); }")
			if !lang.Whole(x) {
				t.Errorf("P6.6: not whole: %q, %d times", e.open, n)
			}
			printed(t, x)
		}
	}
	if s := tell(t, read(t, "thread { print("+strings.Repeat("(", 99)+"x"+strings.Repeat(")", 99)+"); }")); s != "thread {\n\tprint(x);\n}\n" {
		t.Errorf("P6.2, P6.4: %q", s)
	}
}

// span is the memory of a list, spare room too.
type span struct{ low, high uintptr }

func spanOf[T any](l []T) span {
	low := uintptr(unsafe.Pointer(unsafe.SliceData(l)))
	return span{low, low + uintptr(cap(l))*reflect.TypeFor[T]().Size()}
}

// spans are those of all lists of a tree.
func spans(t api.Tree) []span {
	out := []span{spanOf(t.Shared), spanOf(t.Places), spanOf(t.Threads)}
	for _, l := range t.Threads {
		out = append(out, stmtSpans(l)...)
	}
	return out
}

func stmtSpans(l []api.Stmt) []span {
	out := []span{spanOf(l)}
	for _, s := range l {
		out = append(out, exprSpans(s.Place.Index)...)
		out = append(out, exprSpans(s.Args)...)
		out = append(out, stmtSpans(s.Body)...)
		out = append(out, stmtSpans(s.Else)...)
	}
	return out
}

func exprSpans(l []api.Expr) []span {
	out := []span{spanOf(l)}
	for _, e := range l {
		out = append(out, exprSpans(e.Args)...)
	}
	return out
}

func TestR4NoTwoListsShareMemory(t *testing.T) {
	roll := dice(69)
	for range 200 {
		text, _, _ := made(roll, 4)
		b := []byte(text)
		x, y := read(t, text), read(t, text)
		list := append(append(spans(x), spans(y)...), spanOf(b))
		for i, p := range list {
			for _, q := range list[:i] {
				if p.low < p.high && q.low < q.high && p.low < q.high && q.low < p.high {
					t.Fatalf("R4: %q: two lists share memory", text)
				}
			}
		}
	}
}

func TestR4TheTextIsNotChangedAndNotKept(t *testing.T) {
	for _, text := range []string{everything[1], everything[4], "thread { x = ; }", "x $", ""} {
		room := []byte(text + "spare room")
		x, f := lang.Parse(room[:len(text)])
		if string(room) != text+"spare room" {
			t.Errorf("R4: %q is changed: %q", text, room)
		}
		before := copyNames(x)
		for i := range room {
			room[i] = 'z'
		}
		if !equal(x, before) {
			t.Errorf("R4: %q is kept", text)
		}
		if y, g := lang.Parse([]byte(text)); !equal(y, before) || f != g {
			t.Errorf("R5: %q: another answer", text)
		}
	}
}

// copyNames is a copy of a tree whose names are copies, too.
func copyNames(t api.Tree) api.Tree {
	out := copyTree(t)
	for i := range out.Shared {
		out.Shared[i].Name = strings.Clone(out.Shared[i].Name)
	}
	var exprs func(l []api.Expr)
	exprs = func(l []api.Expr) {
		for i := range l {
			l[i].Name = strings.Clone(l[i].Name)
			exprs(l[i].Args)
		}
	}
	var stmts func(l []api.Stmt)
	stmts = func(l []api.Stmt) {
		for i := range l {
			l[i].Name, l[i].Place.Name = strings.Clone(l[i].Name), strings.Clone(l[i].Place.Name)
			exprs(l[i].Place.Index)
			exprs(l[i].Args)
			stmts(l[i].Body)
			stmts(l[i].Else)
		}
	}
	for _, l := range out.Threads {
		stmts(l)
	}
	return out
}

// withRoom is a copy of a tree whose lists have room behind them, with something in it.
func withRoom(t api.Tree) api.Tree {
	var stmts func(l []api.Stmt) []api.Stmt
	var exprs func(l []api.Expr) []api.Expr
	exprs = func(l []api.Expr) []api.Expr {
		out := copyEach(l, func(e api.Expr) api.Expr { e.Args = exprs(e.Args); return e })
		return append(out, api.Expr{Op: 5, Val: 5}, api.Expr{Name: "spare"})[:len(l)]
	}
	stmts = func(l []api.Stmt) []api.Stmt {
		out := copyEach(l, func(s api.Stmt) api.Stmt {
			s.Place.Index, s.Args, s.Body, s.Else = exprs(s.Place.Index), exprs(s.Args), stmts(s.Body), stmts(s.Else)
			return s
		})
		return append(out, api.Stmt{Name: "spare"}, api.Stmt{Mode: 5})[:len(l)]
	}
	out := api.Tree{Threads: append(copyEach(t.Threads, stmts), []api.Stmt{{Name: "spare"}})[:len(t.Threads)]}
	out.Shared = append(append([]api.Shared(nil), t.Shared...), api.Shared{Name: "spare"})[:len(t.Shared)]
	out.Places = append(append([]api.Pair(nil), t.Places...), api.Pair{A: 5})[:len(t.Places)]
	return out
}

// widened is a copy of a tree with what stands in the room behind its lists.
func widened(t api.Tree) api.Tree {
	var stmts func(l []api.Stmt) []api.Stmt
	var exprs func(l []api.Expr) []api.Expr
	exprs = func(l []api.Expr) []api.Expr {
		return copyEach(l[:cap(l)], func(e api.Expr) api.Expr { e.Args = exprs(e.Args); return e })
	}
	stmts = func(l []api.Stmt) []api.Stmt {
		return copyEach(l[:cap(l)], func(s api.Stmt) api.Stmt {
			s.Place.Index, s.Args, s.Body, s.Else = exprs(s.Place.Index), exprs(s.Args), stmts(s.Body), stmts(s.Else)
			return s
		})
	}
	return api.Tree{
		Shared: append([]api.Shared(nil), t.Shared[:cap(t.Shared)]...), Places: append([]api.Pair(nil), t.Places[:cap(t.Places)]...),
		Threads: copyEach(t.Threads[:cap(t.Threads)], stmts),
	}
}

func TestR4TreesAreNotChanged(t *testing.T) {
	deep := api.Stmt{Kind: api.SPrint, Args: []api.Expr{chain(120, "-", num(1))}}
	for i, x := range []api.Tree{thread(sample()...), read(t, everything[1]), read(t, everything[6]), {}, thread(deep), thread(api.Stmt{Kind: 77, Args: []api.Expr{{}}})} {
		a, b := withRoom(x), withRoom(x)
		before := widened(a)
		lang.Whole(a)
		s, e := lang.Print(a)
		if !lang.Same(a, b) {
			t.Errorf("P6.5: case %d: the room behind a list is seen", i)
		}
		if !reflect.DeepEqual(widened(a), before) || !reflect.DeepEqual(widened(b), before) {
			t.Errorf("R4: case %d: a tree is changed", i)
		}
		if s2, e2 := lang.Print(x); s2 != s || e2 != e {
			t.Errorf("R5: case %d: another answer", i)
		}
	}
}
