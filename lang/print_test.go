package lang_test

import (
	"strings"
	"testing"

	"sextant/api"
	"sextant/lang"
	"sextant/lex"
)

// told holds the text of an expression.
func told(t *testing.T, e api.Expr, want string) {
	t.Helper()
	if s := printed(t, printOf(e)); s != "thread {\n\tprint("+want+");\n}\n" {
		t.Errorf("P6.4: %q; want %q", s, want)
	}
}

func TestP6_4Examples(t *testing.T) {
	told(t, two(two(num(1), "-", num(2)), "-", num(3)), "1 - 2 - 3")
	told(t, two(num(1), "-", two(num(2), "-", num(3))), "1 - (2 - 3)")
	told(t, one("-", two(num(1), "+", num(2))), "-(1 + 2)")
	told(t, two(one("!", local("x")), "==", num(0)), "!x == 0")
	if s, e := lang.Print(api.Tree{}); s != "" || e != api.OK {
		t.Errorf("P6.4: nothing: %q, %v", s, e)
	}
}

func TestP6_4MoreExpressions(t *testing.T) {
	for in, want := range map[string]string{
		"0x10": "16", "007": "7", "0xFFFFFFFFFFFFFFFF": "18446744073709551615", "(((x)))": "x",
		"-(-1)": "--1", "-(~(!(x)))": "-~!x", "!(a == b)": "!(a == b)", "(!a) == (!b)": "!a == !b", "a-(-b)": "a - -b", "(-a)*b": "-a * b", "-(a*b)": "-(a * b)",
		"(a<b)<c": "a < b < c", "a<(b<c)": "a < (b < c)", "(a==b)!=(c==d)": "a == b != (c == d)",
		"(1|2)&3^4": "(1 | 2) & 3 ^ 4", "1|(2&3)^4": "1 | 2 & 3 ^ 4", "1+2*3<<4": "1 + 2 * 3 << 4", "1+(2*3<<4)": "1 + (2 * 3 << 4)", "(1+2)*(3+4)": "(1 + 2) * (3 + 4)",
		"((1*2)+3)<<(4+(5*6))": "1 * 2 + 3 << 4 + 5 * 6", "a|(b|(c|d))": "a | (b | (c | d))", "((a|b)|c)|d": "a | b | c | d", "~(a)&~(b)": "~a & ~b",
	} {
		told(t, readExpr(t, in), want)
	}
}

func TestP6_4Layout(t *testing.T) {
	text := "shared x;\nshared a[4];\nshared b[0];\nshared c[2147483648];\n" +
		"thread {\n\tlet r = load(x, rlx);\n\tr = load(a[r & 3], acq);\n\tstore(x, r + 1, rel);\n\tstore(a[0], -1, sc);\n" +
		"\tlet s = xchg(x, 2, acqrel);\n\ts = fadd(a[s], 3, sc);\n\ts = cas(x, r, s * 2, sc);\n\tfence(acq);\n\tprint(r - (s - 1));\n\tlet u = 5;\n\tu = ~u;\n" +
		"\tif (r) {\n\t}\n\tif (!r) {\n\t\tr = 1;\n\t\tr = 2;\n\t} else {\n\t\tr = 3;\n\t}\n\tif (1) {\n\t} else {\n\t\tfence(sc);\n\t}\n" +
		"\twhile (r != 0) {\n\t\twhile (1) {\n\t\t\tif (2) {\n\t\t\t\tr = r - 1;\n\t\t\t} else {\n\t\t\t\twhile (3) {\n\t\t\t\t}\n\t\t\t}\n\t\t}\n\t}\n}\n" +
		"thread {\n}\nthread {\n\tprint(1);\n}\n"
	x := read(t, text)
	if s := printed(t, x); s != text {
		t.Errorf("P6.4: %q; want %q", s, text)
	}
	if s := tell(t, read(t, "shared x,y[2];shared z;thread{if(x){}else{}while(y){}}")); s != "shared x;\nshared y[2];\nshared z;\nthread {\n\tif (x) {\n\t}\n\twhile (y) {\n\t}\n}\n" {
		t.Errorf("P6.4: %q", s)
	}
}

// All expressions with up to three signs.
func TestP6_4AllSmallExpressions(t *testing.T) {
	sizes := [][]api.Expr{{local("x")}}
	for n := 1; n <= 3; n++ {
		var list []api.Expr
		for _, s := range ones {
			for _, e := range sizes[n-1] {
				list = append(list, one(s, e))
			}
		}
		for _, s := range twos {
			for i := range n {
				for _, a := range sizes[i] {
					for _, b := range sizes[n-1-i] {
						list = append(list, two(a, s, b))
					}
				}
			}
		}
		sizes = append(sizes, list)
	}
	for _, list := range sizes {
		for _, e := range list {
			printed(t, printOf(e))
		}
	}
}

// Without any pair of its brackets the text of an expression is another tree's.
func TestP6_4NoBracketsTooMany(t *testing.T) {
	roll := dice(64)
	pairs := 0
	for range 5000 {
		m := &maker{roll: roll}
		x := printOf(m.expr(5))
		s := printed(t, x)
		var open []int
		for i := strings.Index(s, "(") + 1; i < len(s); i++ {
			switch s[i] {
			case '(':
				open = append(open, i)
			case ')':
				if len(open) == 0 {
					continue
				}
				k := open[len(open)-1]
				open = open[:len(open)-1]
				pairs++
				without := s[:k] + s[k+1:i] + s[i+1:]
				if y, f := lang.Parse([]byte(without)); f.Code != api.OK || alike(x, y) {
					t.Fatalf("P6.4: %q needs no brackets: %q, %v", s, without, f)
				}
			}
		}
	}
	if pairs < 1000 {
		t.Errorf("only %d pairs of brackets", pairs)
	}
}

func TestP6_4MadePrograms(t *testing.T) {
	roll := dice(65)
	for i := range 4000 {
		_, x, _ := made(roll, 1+i%9)
		printed(t, x)
	}
}

// sums is a sum from the right: so many brackets within one another, and one sign more.
func sums(n int, e api.Expr) api.Expr {
	e = two(num(1), "-", e)
	for range n {
		e = two(num(1), "-", e)
	}
	return e
}

// MaxDeep in all, and one more: of each kind that counts, and mixed.
func TestP6_4MaxDeep(t *testing.T) {
	store := func(e api.Expr) api.Stmt {
		return api.Stmt{Kind: api.SStore, Place: api.Place{Name: "a", Index: []api.Expr{e}}, Args: []api.Expr{num(1)}, Mode: api.SC}
	}
	put := func(e api.Expr) api.Stmt { return api.Stmt{Kind: api.SPrint, Args: []api.Expr{e}} }
	for _, c := range []struct {
		what string
		fits int
		tree func(n int) api.Tree
	}{
		{"signs -", 99, func(n int) api.Tree { return printOf(chain(n, "-", num(1))) }},
		{"signs ~", 99, func(n int) api.Tree { return printOf(chain(n, "~", local("x"))) }},
		{"signs !", 99, func(n int) api.Tree { return printOf(chain(n, "!", num(1))) }},
		{"signs of a sum", 98, func(n int) api.Tree { return printOf(chain(n, "-", two(num(1), "+", num(2)))) }},
		{"brackets on the right", 99, func(n int) api.Tree { return printOf(sums(n, num(1))) }},
		{"brackets, and a sign in them", 98, func(n int) api.Tree { return printOf(sums(n, one("!", num(1)))) }},
		{"brackets and signs", 49, func(n int) api.Tree {
			e := num(1)
			for range n {
				e = one("~", two(e, "+", num(1)))
			}
			return printOf(e)
		}},
		{"brackets on the left", 99, func(n int) api.Tree {
			e := two(num(1), "*", num(2))
			for i := range n {
				e = two(e, []string{"+", "*"}[i%2], num(1))
			}
			return printOf(two(sums(n-1, num(1)), "*", e))
		}},
		{"an index", 98, func(n int) api.Tree { return thread(store(chain(n, "-", num(1)))) }},
		{"an index in blocks", 98, func(n int) api.Tree { return thread(rooms(n, store(num(1)))) }},
		{"a place in blocks", 99, func(n int) api.Tree {
			s := store(num(1))
			s.Place.Index = nil
			return thread(rooms(n, s))
		}},
		{"blocks", 99, func(n int) api.Tree { return thread(rooms(n, api.Stmt{Kind: api.SFence, Mode: api.Acq})) }},
		{"empty blocks", 99, func(n int) api.Tree {
			return thread(rooms(n-1, api.Stmt{Kind: api.SWhile, Args: []api.Expr{num(1)}}))
		}},
		{"an else in blocks", 98, func(n int) api.Tree {
			return thread(rooms(n, api.Stmt{Kind: api.SIf, Args: []api.Expr{num(1)}, Else: []api.Stmt{put(num(1))}}))
		}},
		{"a sign in blocks", 98, func(n int) api.Tree { return thread(rooms(n, put(one("-", num(1))))) }},
		{"blocks and brackets", 49, func(n int) api.Tree { return thread(rooms(n, put(sums(n+1, num(1))))) }},
		{"the condition of a loop", 99, func(n int) api.Tree {
			return thread(api.Stmt{Kind: api.SWhile, Args: []api.Expr{chain(n, "!", num(1))}})
		}},
		{"the second expression of cas", 99, func(n int) api.Tree {
			return thread(api.Stmt{Kind: api.SCas, Name: "r", Place: api.Place{Name: "x"}, Args: []api.Expr{num(1), chain(n, "!", num(1))}, Mode: api.SC})
		}},
	} {
		printed(t, c.tree(c.fits))
		unprinted(t, c.what, c.tree(c.fits+1), api.EDEEP)
		unprinted(t, c.what, c.tree(c.fits+100), api.EDEEP)
		if !lang.Whole(c.tree(c.fits + 1)) {
			t.Errorf("P6.3: %s: how deep it is, is not asked", c.what)
		}
	}
}

// Beside one another there may be as many as you like.
func TestP6_4ManyBesideOneAnother(t *testing.T) {
	e := num(1)
	for range 500 {
		e = two(e, "-", one("-", two(num(1), "|", one("~", local("x")))))
	}
	printed(t, printOf(e))
	var list []api.Stmt
	for range 300 {
		list = append(list, rooms(3, api.Stmt{Kind: api.SFence, Mode: api.Rel}))
	}
	printed(t, api.Tree{Threads: [][]api.Stmt{list, list}})
}

// Trees that are about as deep as may be: Print tells EDEEP just if Parse would.
func TestP6_4DeepAsParse(t *testing.T) {
	roll := dice(66)
	codes := map[api.Errno]int{}
	for range 1500 {
		e := num(1)
		for range 60 + roll(80) {
			switch s := twos[roll(len(twos))]; roll(5) {
			case 0:
				e = two(e, s, local("x"))
			case 1, 2:
				e = two(num(2), s, e)
			default:
				e = one(ones[roll(3)], e)
			}
		}
		s := api.Stmt{Kind: api.SPrint, Args: []api.Expr{e}}
		if roll(2) == 0 {
			s = api.Stmt{Kind: api.SLoad, Name: "r", Place: api.Place{Name: "a", Index: []api.Expr{e}}, Mode: api.Acq}
		}
		x := thread(rooms(roll(10), s))
		tokens, f := lex.Lex([]byte(layout(x)))
		if f.Code == api.OK {
			f = modelFault(tokens)
		}
		codes[f.Code]++
		if f.Code == api.OK {
			printed(t, x)
		} else {
			unprinted(t, layout(x), x, api.EDEEP)
			refused(t, layout(x), f.Code, f.Line, f.Col)
		}
	}
	if codes[api.OK] < 200 || codes[api.EDEEP] < 200 || len(codes) != 2 {
		t.Errorf("not all is tried: %v", codes)
	}
}

// A text of MaxText bytes, and one more, wherever its last bytes are from.
func TestP6_4MaxText(t *testing.T) {
	fence := api.Stmt{Kind: api.SFence, Mode: api.AcqRel}
	var many []api.Stmt
	for range 3000 {
		many = append(many, fence)
	}
	for i, tree := range []func(name string) api.Tree{
		func(s string) api.Tree { return api.Tree{Shared: []api.Shared{{Name: s}}} },
		func(s string) api.Tree { return api.Tree{Shared: []api.Shared{{Name: "x"}, {Name: s, Size: -1}}} },
		func(s string) api.Tree {
			return api.Tree{Shared: []api.Shared{{Name: s, Size: 1024}}, Threads: [][]api.Stmt{nil, nil}}
		},
		func(s string) api.Tree { return api.Tree{Shared: []api.Shared{{Name: s}}, Threads: [][]api.Stmt{many}} },
		func(s string) api.Tree { return printOf(local(s)) },
		func(s string) api.Tree { return printOf(two(num(1), "-", two(local(s), "-", one("~", num(2))))) },
		func(s string) api.Tree {
			return thread(rooms(99, api.Stmt{Kind: api.SSet, Name: s, Args: []api.Expr{num(1)}}))
		},
		func(s string) api.Tree {
			return thread(api.Stmt{Kind: api.SLoad, Let: true, Name: "r", Place: api.Place{Name: s, Index: []api.Expr{num(1)}}, Mode: api.Rlx}, fence)
		},
		func(s string) api.Tree {
			return thread(api.Stmt{Kind: api.SIf, Args: []api.Expr{local(s)}, Body: []api.Stmt{fence}, Else: many})
		},
	} {
		rest := api.MaxText - (len(layout(tree("x"))) - 1)
		for less := range 5 {
			if s := printed(t, tree(strings.Repeat("x", rest-less))); len(s) != api.MaxText-less {
				t.Errorf("P6.4: case %d: %d bytes", i, len(s))
			}
		}
		for _, more := range []int{1, 2, 9, 100, api.MaxText, 10 * api.MaxText} {
			x := tree(strings.Repeat("x", rest+more))
			unprinted(t, "a name that is too long", x, api.EBIG)
			if !lang.Whole(x) {
				t.Errorf("P6.3: case %d", i)
			}
		}
		if s := printed(t, tree(strings.Repeat("ω", rest/2))); len(s) != api.MaxText-rest%2 {
			t.Errorf("P6.4: case %d, letters of two bytes: %d bytes", i, len(s))
		}
		unprinted(t, "letters of two bytes", tree(strings.Repeat("ω", rest/2+1)), api.EBIG)
	}
}

// EARG, then EDEEP, then EBIG: wherever in the tree the reason is.
func TestP6_4WhichFirst(t *testing.T) {
	long := api.Stmt{Kind: api.SSet, Name: strings.Repeat("x", api.MaxText), Args: []api.Expr{num(1)}}
	deep := api.Stmt{Kind: api.SPrint, Args: []api.Expr{chain(100, "-", num(1))}}
	wrong := api.Stmt{Kind: api.SFence, Mode: 6}
	for _, c := range []struct {
		list []api.Stmt
		code api.Errno
	}{
		{[]api.Stmt{long}, api.EBIG}, {[]api.Stmt{deep}, api.EDEEP}, {[]api.Stmt{wrong}, api.EARG},
		{[]api.Stmt{long, deep}, api.EDEEP}, {[]api.Stmt{deep, long}, api.EDEEP}, {[]api.Stmt{rooms(99, rooms(1, long))}, api.EDEEP},
		{[]api.Stmt{long, wrong}, api.EARG}, {[]api.Stmt{wrong, long}, api.EARG}, {[]api.Stmt{deep, wrong}, api.EARG}, {[]api.Stmt{wrong, deep}, api.EARG}, {[]api.Stmt{long, deep, wrong}, api.EARG}, {[]api.Stmt{rooms(200, wrong), long}, api.EARG},
	} {
		unprinted(t, "one thread", thread(c.list...), c.code)
		unprinted(t, "three threads", api.Tree{Threads: [][]api.Stmt{nil, c.list, nil}}, c.code)
		unprinted(t, "in a loop", thread(api.Stmt{Kind: api.SWhile, Args: []api.Expr{num(1)}, Body: c.list}), c.code)
	}
	unprinted(t, "a long declaration, a deep thread", api.Tree{Shared: []api.Shared{{Name: long.Name}}, Threads: [][]api.Stmt{{deep}}}, api.EDEEP)
	unprinted(t, "a wrong declaration, a deep thread", api.Tree{Shared: []api.Shared{{Name: "x", Size: -2}}, Threads: [][]api.Stmt{{deep}}}, api.EARG)
	unprinted(t, "a long declaration, a wrong thread", api.Tree{Shared: []api.Shared{{Name: long.Name}}, Threads: [][]api.Stmt{{wrong}}}, api.EARG)
}
