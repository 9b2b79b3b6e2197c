package lang_test

import (
	"fmt"
	"math"
	"strings"
	"testing"

	"sextant/api"
	"sextant/lang"
)

func at(e api.Expr, line, col int) api.Expr {
	e.Line, e.Col = line, col
	return e
}

func place(name string, line, col int, index ...api.Expr) api.Place {
	return api.Place{Name: name, Line: line, Col: col, Index: index}
}

// holdTree holds what Parse tells of a text against its tree, places and all.
func holdTree(t *testing.T, text string, want api.Tree) {
	t.Helper()
	if got, f := lang.Parse([]byte(text)); f != (api.Fault{}) || !equal(got, want) {
		t.Errorf("P6.2: %q: %+v, %v; want %+v", text, got, f, want)
	}
}

func TestP6_2Examples(t *testing.T) {
	holdTree(t, "", api.Tree{})
	holdTree(t, " // nothing\n", api.Tree{})
	holdTree(t, "shared x, a[8]; thread { let r = load(x, acq); store(a[r & 7], r + 1 * 2, rel); }", api.Tree{
		Shared: []api.Shared{{Name: "x", Line: 1, Col: 8}, {Name: "a", Size: 8, Line: 1, Col: 11}},
		Places: []api.Pair{{A: 1, B: 17}},
		Threads: [][]api.Stmt{{
			{Kind: api.SLoad, Let: true, Name: "r", Place: place("x", 1, 39), Mode: api.Acq, Line: 1, Col: 26, MLine: 1, MCol: 42},
			{
				Kind: api.SStore, Place: place("a", 1, 54, at(two(at(local("r"), 1, 56), "&", at(num(7), 1, 60)), 1, 58)),
				Args: []api.Expr{at(two(at(local("r"), 1, 64), "+", at(two(at(num(1), 1, 68), "*", at(num(2), 1, 72)), 1, 70)), 1, 66)},
				Mode: api.Rel, Line: 1, Col: 48, MLine: 1, MCol: 75,
			},
		}},
	})
	if x, f := lang.Parse(nil); f != (api.Fault{}) || !equal(x, api.Tree{}) {
		t.Errorf("P6.2: nil: %v, %v", x, f)
	}
}

// Each kind, with all of its fields, over several lines.
func TestP6_2EachKind(t *testing.T) {
	one := []api.Expr{at(num(1), 4, 2)}
	in := func(line, col int, s api.Stmt) api.Tree {
		s.Line, s.Col = line, col
		return api.Tree{Places: []api.Pair{{A: 1, B: 2}}, Threads: [][]api.Stmt{{s}}}
	}
	for _, c := range []struct {
		text string
		s    api.Stmt
	}{
		{"x\n=\n 1;", api.Stmt{Kind: api.SSet, Name: "x", Args: one}},
		{"let x=\n\n 1;", api.Stmt{Kind: api.SSet, Let: true, Name: "x", Args: one}},
		{"x = load(\n\ny, rlx);", api.Stmt{Kind: api.SLoad, Name: "x", Place: place("y", 4, 1), Mode: api.Rlx, MLine: 4, MCol: 4}},
		{"let x = load(y[\n\n 1]\n,\nacq);", api.Stmt{Kind: api.SLoad, Let: true, Name: "x", Place: place("y", 2, 14, one...), Mode: api.Acq, MLine: 6, MCol: 1}},
		{"store(y,\n\n 1, rel);", api.Stmt{Kind: api.SStore, Place: place("y", 2, 7), Args: one, Mode: api.Rel, MLine: 4, MCol: 5}},
		{"store(y[\n\n 1], 2, sc);", api.Stmt{Kind: api.SStore, Place: place("y", 2, 7, one...), Args: []api.Expr{at(num(2), 4, 6)}, Mode: api.SC, MLine: 4, MCol: 9}},
		{"x = xchg(y,\n\n 1, acqrel);", api.Stmt{Kind: api.SXchg, Name: "x", Place: place("y", 2, 10), Args: one, Mode: api.AcqRel, MLine: 4, MCol: 5}},
		{"let x = fadd(y,\n\n 1, sc);", api.Stmt{Kind: api.SFadd, Let: true, Name: "x", Place: place("y", 2, 14), Args: one, Mode: api.SC, MLine: 4, MCol: 5}},
		{"x = cas(y,\n\n 1, z, rlx);", api.Stmt{Kind: api.SCas, Name: "x", Place: place("y", 2, 9), Args: []api.Expr{one[0], at(local("z"), 4, 5)}, Mode: api.Rlx, MLine: 4, MCol: 8}},
		{"fence\n( acq ) ;", api.Stmt{Kind: api.SFence, Mode: api.Acq, MLine: 3, MCol: 3}},
		{"print(\n\n 1);", api.Stmt{Kind: api.SPrint, Args: one}},
		{"if (\n\n 1) { }", api.Stmt{Kind: api.SIf, Args: one}},
		{"if (\n\n 1) { } else { }", api.Stmt{Kind: api.SIf, Args: one}},
		{"if (\n\n 1) { fence(sc); }", api.Stmt{Kind: api.SIf, Args: one, Body: []api.Stmt{{Kind: api.SFence, Mode: api.SC, Line: 4, Col: 7, MLine: 4, MCol: 13}}}},
		{"if (\n\n 1) { } else { fence(sc); }", api.Stmt{Kind: api.SIf, Args: one, Else: []api.Stmt{{Kind: api.SFence, Mode: api.SC, Line: 4, Col: 16, MLine: 4, MCol: 22}}}},
		{"if (\n\n 1) { x = 1; } else { x = 2; }", api.Stmt{
			Kind: api.SIf, Args: one,
			Body: []api.Stmt{{Kind: api.SSet, Name: "x", Args: []api.Expr{at(num(1), 4, 11)}, Line: 4, Col: 7}},
			Else: []api.Stmt{{Kind: api.SSet, Name: "x", Args: []api.Expr{at(num(2), 4, 27)}, Line: 4, Col: 23}},
		}},
		{"while (\n\n 1) { }", api.Stmt{Kind: api.SWhile, Args: one}},
		{"while (\n\n 1) { let x = 1; fence(rel); }", api.Stmt{Kind: api.SWhile, Args: one, Body: []api.Stmt{
			{Kind: api.SSet, Let: true, Name: "x", Args: []api.Expr{at(num(1), 4, 15)}, Line: 4, Col: 7},
			{Kind: api.SFence, Mode: api.Rel, Line: 4, Col: 18, MLine: 4, MCol: 24},
		}}},
	} {
		holdTree(t, " thread {\n"+c.text+"\n}", in(2, 1, c.s))
	}
}

// Each mode at each kind that has one: the grammar takes all of them.
func TestP6_2EachModeAtEachKind(t *testing.T) {
	for kind, form := range map[int]string{
		api.SLoad: "r = load(x, %s);", api.SStore: "store(x, 1, %s);", api.SXchg: "r = xchg(x, 1, %s);", api.SFadd: "let r = fadd(x[1], 1, %s);", api.SCas: "r = cas(x, 1, 2, %s);", api.SFence: "fence(%s);",
	} {
		for mode := 1; mode <= 5; mode++ {
			text := "thread {\n" + fmt.Sprintf(form, modeWords[mode]) + "\n}"
			s := read(t, text).Threads[0][0]
			if s.Kind != kind || s.Mode != mode || s.MLine != 2 || s.MCol != 1+strings.Index(form, "%") {
				t.Errorf("P6.2: %q: %+v", text, s)
			}
			printed(t, read(t, text))
		}
	}
}

func TestP6_2Sizes(t *testing.T) {
	for _, c := range []struct {
		text string
		size int
	}{
		{"", 0}, {"[0]", -1}, {"[00]", -1}, {"[0x0]", -1}, {"[1]", 1}, {"[3]", 3}, {"[007]", 7}, {"[0x10]", 16}, {"[1025]", 1025},
		{"[2147483647]", 1<<31 - 1}, {"[2147483648]", 1 << 31}, {"[0x80000000]", 1 << 31}, {"[2147483649]", 1 << 31}, {"[4294967296]", 1 << 31}, {"[9223372036854775807]", 1 << 31}, {"[9223372036854775808]", 1 << 31}, {"[18446744073709551615]", 1 << 31},
	} {
		holdTree(t, "shared x"+c.text+";", api.Tree{Shared: []api.Shared{{Name: "x", Size: c.size, Line: 1, Col: 8}}})
	}
	holdTree(t, "shared x, x;shared\n x[2] , αβ;", api.Tree{Shared: []api.Shared{{Name: "x", Line: 1, Col: 8}, {Name: "x", Line: 1, Col: 11}, {Name: "x", Size: 2, Line: 2, Col: 2}, {Name: "αβ", Line: 2, Col: 9}}})
}

func TestP6_2Threads(t *testing.T) {
	holdTree(t, "thread{}", api.Tree{Places: []api.Pair{{A: 1, B: 1}}, Threads: [][]api.Stmt{nil}})
	holdTree(t, "shared x;thread {}\n thread{fence(sc);} // x\n\nthread\n{\n}", api.Tree{
		Shared:  []api.Shared{{Name: "x", Line: 1, Col: 8}},
		Places:  []api.Pair{{A: 1, B: 10}, {A: 2, B: 2}, {A: 4, B: 1}},
		Threads: [][]api.Stmt{nil, {{Kind: api.SFence, Mode: api.SC, Line: 2, Col: 9, MLine: 2, MCol: 15}}, nil},
	})
	if x := read(t, strings.Repeat("thread{}", 500)); len(x.Threads) != 500 || len(x.Places) != 500 || x.Places[499] != (api.Pair{A: 1, B: 8*499 + 1}) {
		t.Error("P6.2: 500 threads")
	}
}

// Two signs of two operands between three, on either side of each other: the stronger one, or the first of one level, binds.
func TestP6_2EachTwoSigns(t *testing.T) {
	a, b, c := local("a"), local("b"), local("c")
	for _, p := range twos {
		for _, q := range twos {
			left, right := two(two(a, p, b), q, c), two(a, p, two(b, q, c))
			want := left
			if levelOf(q) > levelOf(p) {
				want = right
			}
			for text, e := range map[string]api.Expr{
				"a" + p + " b " + q + " c": want, "(a" + p + " b)" + q + " c": left, "a " + p + " (b" + q + " c)": right, "((a)" + p + "((b)" + q + " c))": right,
			} {
				if got := readExpr(t, text); !alike(printOf(got), printOf(e)) {
					t.Errorf("P6.2: %q: %+v; want %+v", text, got, e)
				}
			}
			texts := []string{"a " + p + " b " + q + " c", "a " + p + " (b " + q + " c)"}
			if levelOf(q) > levelOf(p) {
				texts = []string{"(a " + p + " b) " + q + " c", "a " + p + " b " + q + " c"}
			}
			for i, x := range []api.Expr{left, right} {
				if s := printed(t, printOf(x)); s != "thread {\n\tprint("+texts[i]+");\n}\n" {
					t.Errorf("P6.4: %q; want %q", s, texts[i])
				}
			}
		}
	}
}

// Three signs between four operands.
func TestP6_2EachThreeSigns(t *testing.T) {
	list := []api.Expr{local("a"), num(2), local("c"), num(4)}
	for _, p := range twos {
		for _, q := range twos {
			for _, r := range twos {
				between := []api.Expr{{Op: twoOps[p]}, {Op: twoOps[q]}, {Op: twoOps[r]}}
				text := "a " + p + " 2 " + q + " c " + r + " 4"
				want := split(list, between)
				if got := readExpr(t, text); !alike(printOf(got), printOf(want)) {
					t.Fatalf("P6.2: %q: %+v; want %+v", text, got, want)
				}
				if s := printed(t, printOf(want)); s != "thread {\n\tprint("+text+");\n}\n" {
					t.Fatalf("P6.4: %q; want %q", s, text)
				}
			}
		}
	}
}

// Signs of one operand: ahead of one another, of brackets, of a name and of a number; beside each sign of two.
func TestP6_2SignsOfOne(t *testing.T) {
	x := local("x")
	for _, p := range ones {
		for _, q := range ones {
			for text, e := range map[string]api.Expr{
				p + q + "x": one(p, one(q, x)), p + "(" + q + "x)": one(p, one(q, x)), p + " " + q + " 7": one(p, one(q, num(7))), "(" + p + "x)": one(p, x), p + "(((x)))": one(p, x),
				p + q + p + "0": one(p, one(q, one(p, num(0)))),
			} {
				if got := readExpr(t, text); !alike(printOf(got), printOf(e)) {
					t.Errorf("P6.2: %q: %+v; want %+v", text, got, e)
				}
				printed(t, printOf(e))
			}
			for _, s := range twos {
				e := two(one(p, x), s, one(q, num(1)))
				for text, want := range map[string]api.Expr{
					p + "x " + s + " " + q + "1": e, "(" + p + "x)" + s + "(" + q + "1)": e,
					p + "(x " + s + " " + q + "1)": one(p, two(x, s, one(q, num(1)))),
					p + q + "(x " + s + "1)":       one(p, one(q, two(x, s, num(1)))),
					p + "(" + q + "x) " + s + " 1": two(one(p, one(q, x)), s, num(1)),
				} {
					if got := readExpr(t, text); !alike(printOf(got), printOf(want)) {
						t.Errorf("P6.2: %q: %+v; want %+v", text, got, want)
					}
					printed(t, printOf(want))
				}
			}
		}
	}
	holdTree(t, "thread{print(-\n~(1 -!x));}", api.Tree{
		Places: []api.Pair{{A: 1, B: 1}},
		Threads: [][]api.Stmt{{{Kind: api.SPrint, Line: 1, Col: 8, Args: []api.Expr{
			at(one("-", at(one("~", at(two(at(num(1), 2, 3), "-", at(one("!", at(local("x"), 2, 7)), 2, 6)), 2, 5)), 2, 1)), 1, 14),
		}}}},
	})
}

func TestP6_2Numbers(t *testing.T) {
	for text, v := range map[string]uint64{"0": 0, "18446744073709551615": math.MaxUint64, "0xffffffffffffffff": math.MaxUint64, "0X8000000000000000": 1 << 63, "0012": 12, "9223372036854775808": 1 << 63, "4294967296": 1 << 32} {
		if e := readExpr(t, text); e.Op != api.OpNum || e.Val != v || e.Name != "" || len(e.Args) != 0 {
			t.Errorf("P6.2: %q: %+v", text, e)
		}
	}
}

// Programs made with their trees: each place of each thing, with blanks and remarks between.
func TestP6_2MadePrograms(t *testing.T) {
	roll := dice(62)
	for i := range 6000 {
		text, want, _ := made(roll, 1+i%9)
		got, f := lang.Parse([]byte(text))
		if f != (api.Fault{}) || !equal(got, want) {
			t.Fatalf("P6.2: %q: %+v, %v; want %+v", text, got, f, want)
		}
		if len(got.Places) != len(got.Threads) {
			t.Fatalf("P6.2: %q: %v", text, got.Places)
		}
	}
}
