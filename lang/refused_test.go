package lang_test

import (
	"slices"
	"strings"
	"testing"

	"sextant/api"
	"sextant/lang"
	"sextant/lex"
)

func TestP6_1Examples(t *testing.T) {
	refused(t, "thread { x = ; }", api.ESYNTAX, 1, 14)
	refused(t, "thread {", api.ESYNTAX, 1, 9)
	refused(t, "shared x; shared", api.ESYNTAX, 1, 17)
	refused(t, "thread { } shared x;", api.ESYNTAX, 1, 12)
	refused(t, "thread { let sc = 1; }", api.ESYNTAX, 1, 14)
	refused(t, "thread { fence(x); }", api.ESYNTAX, 1, 16)
}

func TestP6_1MoreFaults(t *testing.T) {
	for _, c := range []struct {
		text string
		col  int
	}{
		{"x", 1}, {";", 1}, {"{ }", 1}, {"let", 1}, {"else", 1}, {"1", 1},
		{"shared", 7}, {"shared ;", 8}, {"shared 1;", 8}, {"shared sc;", 8}, {"shared x", 9}, {"shared x,", 10}, {"shared x,;", 10}, {"shared x y;", 10}, {"shared x[", 10}, {"shared x[];", 10}, {"shared x[a];", 10}, {"shared x[-1];", 10}, {"shared x[1", 11}, {"shared x[1+1];", 11}, {"shared x[1][2];", 12}, {"shared x = 1;", 10}, {"shared x;;", 10}, {"shared x; y;", 11},
		{"thread", 7}, {"thread ;", 8}, {"thread x {}", 8}, {"thread {} ;", 11}, {"thread {}}", 10}, {"thread {} x", 11}, {"thread { thread", 10}, {"thread { shared", 10}, {"thread { ; }", 10}, {"thread { { } }", 10}, {"thread { 1; }", 10}, {"thread { else { } }", 10}, {"thread { (x) = 1; }", 10},
		{"thread { x; }", 11}, {"thread { x[1] = 2; }", 11}, {"thread { x == 1; }", 12}, {"thread { x 1; }", 12}, {"thread { x = 1, 2; }", 15}, {"thread { x = y = 1; }", 16}, {"thread { x = y[1]; }", 15}, {"thread { x = y(1); }", 15}, {"thread { x = 1 2; }", 16}, {"thread { x = (1 2); }", 17}, {"thread { x = (); }", 15}, {"thread { x = 1); }", 15}, {"thread { x = + 1; }", 14}, {"thread { x = 1 ~ 2; }", 16}, {"thread { x = 1 ! 2; }", 16}, {"thread { x = 1 +; }", 17}, {"thread { x = -; }", 15}, {"thread { x = a && b; }", 17}, {"thread { x = sc; }", 14}, {"thread { x = 1 }", 16},
		{"thread { let = 1; }", 14}, {"thread { let x; }", 15}, {"thread { let let x = 1; }", 14}, {"thread { let store(x, 1, sc); }", 14}, {"thread { let 1 = 1; }", 14},
		{"thread { load(x, sc); }", 10}, {"thread { cas(x, 1, 2, sc); }", 10}, {"thread { r = store(x, 1, sc); }", 14}, {"thread { r = fence(sc); }", 14}, {"thread { r = if (1) { }; }", 14}, {"thread { r = load(x, sc) + 1; }", 26}, {"thread { r = 1 + load(x, sc); }", 18}, {"thread { r = (load(x, sc)); }", 15}, {"thread { r = -load(x, sc); }", 15},
		{"thread { r = load x; }", 19}, {"thread { r = load(); }", 19}, {"thread { r = load(1, sc); }", 19}, {"thread { r = load((x), sc); }", 19}, {"thread { r = load(x); }", 20}, {"thread { r = load(x + 1, sc); }", 21}, {"thread { r = load(x, ); }", 22}, {"thread { r = load(x, r); }", 22}, {"thread { r = load(x, 5); }", 22}, {"thread { r = load(x, (sc)); }", 22}, {"thread { r = load(x, sc, sc); }", 24}, {"thread { r = load(x, sc; }", 24}, {"thread { r = load(x, sc) }", 26}, {"thread { r = load(x[], sc); }", 21}, {"thread { r = load(x[1, sc); }", 22}, {"thread { r = load(x[1][2], sc); }", 23}, {"thread { r = load(x[sc], sc); }", 21},
		{"thread { r = xchg(x, sc); }", 22}, {"thread { r = xchg(x, 1); }", 23}, {"thread { r = fadd(x, 1, 2, sc); }", 25}, {"thread { r = cas(x, 1, sc); }", 24}, {"thread { r = cas(x, 1, 2); }", 25}, {"thread { r = cas(x, 1, 2, 3, sc); }", 27}, {"thread { r = cas(x, sc); }", 21},
		{"thread { store x; }", 16}, {"thread { store(1, x, sc); }", 16}, {"thread { store(x, sc); }", 19}, {"thread { store(x, 1); }", 20}, {"thread { store(x, 1, 2, sc); }", 22}, {"thread { store(x, 1, sc) }", 26},
		{"thread { fence; }", 15}, {"thread { fence(); }", 16}, {"thread { fence(sc, sc); }", 18}, {"thread { fence(1); }", 16}, {"thread { fence(sc) }", 20},
		{"thread { print x; }", 16}, {"thread { print(); }", 16}, {"thread { print(1, 2); }", 17}, {"thread { print(sc); }", 16}, {"thread { print(1) }", 19},
		{"thread { if x { } }", 13}, {"thread { if () { } }", 14}, {"thread { if (1) x = 1; }", 17}, {"thread { if (1) { }; }", 20}, {"thread { if (1) { } else x = 1; }", 26}, {"thread { if (1) { } else if (2) { } }", 26}, {"thread { if (1) { } else { } else { } }", 30}, {"thread { if (1, 2) { } }", 15},
		{"thread { while { } }", 16}, {"thread { while (1) ; }", 20}, {"thread { while (1) { } else { } }", 24}, {"thread { while (1) { };", 23},
	} {
		refused(t, c.text, api.ESYNTAX, 1, c.col)
		hold(t, c.text)
	}
	refused(t, "shared x;\nthread {\n\tx = ;\n}\n", api.ESYNTAX, 3, 6)
	refused(t, "thread { // α\n\tαβ = γδ ε; }", api.ESYNTAX, 2, 10)
	refused(t, "thread {\n\n // the end\n", api.ESYNTAX, 4, 1)
}

// Lex's fault is told wherever it stands, also behind one of the grammar.
func TestP6_1LexFirst(t *testing.T) {
	for _, s := range []string{"x ", "thread { x = ; } ", "thread {\n} shared y; ", strings.Repeat("thread { x = ", 1) + strings.Repeat("(", 200) + " "} {
		at := strings.LastIndex(s, "\n") + 1
		line, col := 1+strings.Count(s, "\n"), len(s)-at+1
		refused(t, s+"$", api.ELEX, line, col)
		refused(t, s+"12a", api.ELEX, line, col+2)
		refused(t, s+"0x", api.ELEX, line, col+2)
		refused(t, s+"18446744073709551616", api.ELEX, line, col)
		refused(t, s+"// \xff", api.ELEX, line, col+3)
		hold(t, s+"$")
	}
	refused(t, "$ x", api.ELEX, 1, 1)
	refused(t, "thread { $", api.ELEX, 1, 10)
	for _, s := range []string{" ", "x", "$", "("} {
		refused(t, strings.Repeat(s, api.MaxText+1), api.EBIG, 1, 1)
	}
	if x, f := lang.Parse([]byte(strings.Repeat(" ", api.MaxText))); f != (api.Fault{}) || len(x.Threads) != 0 {
		t.Errorf("P6.1: MaxText blanks: %v", f)
	}
	if x, f := lang.Parse([]byte("thread{}" + strings.Repeat(" ", api.MaxText-8))); f != (api.Fault{}) || len(x.Threads) != 1 {
		t.Errorf("P6.1: a thread and blanks, MaxText bytes: %v", f)
	}
	refused(t, strings.Repeat(" ", api.MaxText-1)+"x", api.ESYNTAX, 1, api.MaxText)
}

// everything is programs that have each thing of the grammar at each of its places.
var everything = []string{
	"",
	"shared x ; shared y , a [ 8 ] , z ; thread { } thread { }",
	"thread { x = 1 ; let y = x ; y = - 2 + ~ ( ! x * 3 ) ; }",
	"thread { let r = load ( x , rlx ) ; r = load ( a [ r + 1 ] , sc ) ; }",
	"thread { let r = xchg ( x , 1 , acq ) ; r = fadd ( a [ 2 ] , ( r ) , rel ) ; r = cas ( x , r , - 1 , acqrel ) ; r = cas ( a [ r ] , 1 , 2 , sc ) ; }",
	"thread { store ( x , 1 , rel ) ; store ( a [ ( x ) ] , x | y , sc ) ; fence ( acq ) ; print ( x ^ 1 ) ; print ( ( 1 ) ) ; }",
	"thread { if ( x ) { } if ( x < 1 ) { x = 1 ; } else { } if ( 1 ) { } else { fence ( sc ) ; x = 2 ; } while ( ! x ) { while ( 1 ) { } print ( 1 ) ; } }",
	"shared a [ 0 ] ; thread { if ( 1 ) { if ( 2 ) { } else { } } else { if ( 3 ) { } } }",
	"thread { x = 1 | 2 ^ 3 & 4 == 5 != 6 < 7 <= 8 > 9 >= 10 << 11 >> 12 + 13 - 14 * 15 ; }",
}

// vocabulary is a token of each kind and text.
var vocabulary = append(append([]string{"", "w", "5"}, words...), allSigns...)

// Each place of the grammar with each token there is (the end of the text among them): with nothing behind it, put in, and put in place of what stands there.
func TestP6_1EachTokenAtEachPlace(t *testing.T) {
	taken := 0
	for _, p := range everything {
		list := strings.Fields(p)
		for i := range len(list) + 1 {
			for _, x := range vocabulary {
				head := slices.Concat(list[:i], []string{x})
				texts := [][]string{head}
				if x != "" {
					texts = append(texts, slices.Concat(head, list[i:]), slices.Concat(head, list[min(i+1, len(list)):]))
				}
				for _, l := range texts {
					if _, f := hold(t, strings.Join(l, " ")); f.Code == api.OK {
						taken++
					}
				}
			}
		}
	}
	if taken < 500 {
		t.Errorf("only %d programs were taken", taken)
	}
}

// Programs with a token or two left out, doubled, put in or changed.
func TestP6_1SpoiltPrograms(t *testing.T) {
	roll := dice(61)
	codes := map[api.Errno]int{}
	for range 6000 {
		_, _, list := made(roll, 6)
		for range 1 + roll(2) {
			if len(list) == 0 {
				break
			}
			i := roll(len(list))
			switch roll(4) {
			case 0:
				list = slices.Delete(slices.Clone(list), i, i+1)
			case 1:
				list = slices.Insert(slices.Clone(list), i, list[i])
			case 2:
				list = slices.Insert(slices.Clone(list), i, vocabulary[1+roll(len(vocabulary)-1)])
			case 3:
				list = slices.Clone(list)
				list[i] = vocabulary[1+roll(len(vocabulary)-1)]
			}
		}
		text, _ := render(list, roll)
		_, f := hold(t, text)
		codes[f.Code]++
	}
	if codes[api.OK] < 200 || codes[api.ESYNTAX] < 2000 {
		t.Errorf("not all is tried: %v", codes)
	}
}

// nest is what opens a thing, what may stand in it, and what closes it.
type nest struct{ open, close string }

var (
	inExpr = []nest{{"(", ")"}, {"-", ""}, {"~", ""}, {"!", ""}, {"1 * (", " + x)"}, {"(1 - x | ", ")"}}
	inStmt = []nest{
		{"if (1) {", "}"}, {"if (x) { } else {", "}"}, {"while (x) { x = 1 - 1;", "}"}, {"if (1) { } else {", "x = 2; }"},
	}
	inEnd = []nest{{"x = ", ";"}, {"let y = ", ";"}, {"print(", ");"}, {"store(x, ", ", sc);"}, {"if (", ") { }"}, {"x = cas(x, 1, ", ", rel);"}, {"while (1 + ", ") { }"}, {"x = xchg(x, ", ", rlx);"}}
)

// Blocks, in the last a statement, in its expression brackets and signs: MaxDeep in all, and one more.
func TestP6_1MaxDeep(t *testing.T) {
	for _, b := range []int{1, 60, 99, 100} {
		for _, s := range inStmt {
			for _, end := range inEnd {
				for _, e := range inExpr {
					head := "thread {" + strings.Repeat(s.open, b-1) + end.open + strings.Repeat(e.open, 100-b)
					tail := end.close + strings.Repeat(s.close, b-1) + "}"
					back := strings.Repeat(e.close, 100-b)
					if strings.HasSuffix(end.close, "{ }") && b == 100 {
						continue // its own block would be one too many
					}
					read(t, head+"1"+back+tail)
					for _, x := range []string{"(", "-", "~", "!"} {
						refused(t, head+x+"1", api.EDEEP, 1, len(head)+1)
						refused(t, head+x, api.EDEEP, 1, len(head)+1)
						refused(t, head+x+x+";", api.EDEEP, 1, len(head)+1)
					}
					hold(t, head+"(1)"+back+tail)
				}
			}
		}
	}
}

func TestP6_1MaxDeepOfEachKind(t *testing.T) {
	for _, c := range []struct {
		what, head, open, mid, close, tail string
		fits                               int
		first                              string // that is counted
	}{
		{"the example's brackets", "thread { print(", "(", "1", ")", "); }", 99, "("},
		{"signs -", "thread { print(", "-", "1", "", "); }", 99, "-"},
		{"signs ~", "thread { print(", "~", "x", "", "); }", 99, "~"},
		{"signs !", "thread { print(", "!", "1", "", "); }", 99, "!"},
		{"brackets in an index", "thread { store(a[", "(", "1", ")", "], 1, sc); }", 98, "("},
		{"signs in an index", "thread { r = load(a[", "- ", "1", "", "], sc); }", 98, "-"},
		{"brackets of an if", "thread { if (", "(", "1", ")", ") { } }", 99, "("},
		{"brackets of a while", "thread { while (", "(", "1", ")", ") { } }", 99, "("},
		{"blocks of if", "thread {", "if (1) {", "", "}", "}", 99, "{"},
		{"blocks of else", "thread {", "if (1) { } else {", "", "}", "}", 99, "{"},
		{"blocks of while", "thread {", "while (1) {", "", "}", "}", 99, "{"},
	} {
		text := func(n int) string {
			return c.head + strings.Repeat(c.open, n) + c.mid + strings.Repeat(c.close, n) + c.tail
		}
		read(t, text(c.fits))
		col := len(c.head) + c.fits*len(c.open) + 1 + strings.IndexAny(c.open, c.first)
		refused(t, text(c.fits+1), api.EDEEP, 1, col)
		refused(t, text(c.fits+2), api.EDEEP, 1, col)
		hold(t, text(c.fits))
		hold(t, text(c.fits+1))
	}
}

// A place's index: it counts, at each depth; in it stands what one expression may have.
func TestP6_1MaxDeepIndex(t *testing.T) {
	for _, k := range []nest{{"x = load(", ", sc);"}, {"store(", ", 1, sc);"}, {"x = xchg(", ", 1, sc);"}, {"x = fadd(", ", 1, sc);"}, {"x = cas(", ", 1, 2, sc);"}} {
		in := func(blocks int, s string) (string, int) {
			head := "thread {" + strings.Repeat("while (1) {", blocks-1) + k.open
			return head + s + k.close + strings.Repeat("}", blocks), len(head) + 1
		}
		s, _ := in(99, "a[1]")
		read(t, s)
		s, at := in(100, "a[1]")
		refused(t, s, api.EDEEP, 1, at+1)
		s, _ = in(100, "a")
		read(t, s)
		s, at = in(99, "a[(1)]")
		refused(t, s, api.EDEEP, 1, at+2)
		s, at = in(98, "a[1 + -!1]")
		refused(t, s, api.EDEEP, 1, at+7)
		s, _ = in(98, "a[1 + -1 * (1)]")
		read(t, s)
		s, _ = in(100, "a[1")
		hold(t, s)
	}
}

// Of one token that opens too much and can't follow either ESYNTAX is told; else that of the two which comes first.
func TestP6_1DeepOrSyntax(t *testing.T) {
	full := "thread {" + strings.Repeat("while (1) {", 98) + "x = ("
	n := len(full) + 1
	for _, c := range []struct {
		text string
		code api.Errno
		at   int
	}{
		{"(", api.EDEEP, 0}, {"-", api.EDEEP, 0}, {"(;", api.EDEEP, 0}, {"1 (", api.ESYNTAX, 2}, {"1 ~", api.ESYNTAX, 2}, {"1 !", api.ESYNTAX, 2}, {"1 - -", api.EDEEP, 4}, {"1 - 2 -", api.ESYNTAX, 7}, {"a[", api.ESYNTAX, 1}, {"{", api.ESYNTAX, 0}, {"[", api.ESYNTAX, 0}, {"1 {", api.ESYNTAX, 2}, {"1 [", api.ESYNTAX, 2}, {"; (", api.ESYNTAX, 0}, {"1 ; (", api.ESYNTAX, 2},
		{"1); store(a[(", api.EDEEP, 12}, {"1); store(a[[", api.ESYNTAX, 12}, {"1); {", api.ESYNTAX, 4}, {"1); (", api.ESYNTAX, 4}, {"1); -", api.ESYNTAX, 4}, {"1); if (1) { x = (", api.EDEEP, 17}, {"1); if (1) { (", api.ESYNTAX, 13}, {"1); if (1) { {", api.ESYNTAX, 13}, {"1); if (1) { if (1) {", api.EDEEP, 20}, {"1); if (1) { if (1) [", api.ESYNTAX, 20}, {"1); if (1) { if (", api.ESYNTAX, 17}, {"1); if (1) { } else { store(a[", api.EDEEP, 29}, {"1); if (1) { store(a{", api.ESYNTAX, 20},
	} {
		refused(t, full+c.text, c.code, 1, n+c.at)
		hold(t, full+c.text)
	}
}

// What stands beside one another is not within one another.
func TestP6_1ManyBesideOneAnother(t *testing.T) {
	for _, s := range []string{
		"thread { x = 1" + strings.Repeat(" + (1) - -1 * ~!2", 300) + "; }",
		"thread { " + strings.Repeat("if (1) { while (-(2)) { } } else { } ", 300) + "}",
		"thread { " + strings.Repeat("store(a[-1], (1), sc); ", 300) + "}",
		strings.Repeat("thread { x = -(1); } ", 300),
		"shared a[1]" + strings.Repeat(", a[1]", 300) + ";",
		"thread { x = cas(a[(1)]" + ", (1), -(2), sc); }",
	} {
		read(t, s)
		hold(t, s)
	}
}

// Random nests around MaxDeep, whole and cut short.
func TestP6_1RandomNests(t *testing.T) {
	roll := dice(100)
	codes := map[api.Errno]int{}
	loose := append([]nest{{"2 + ~", ""}, {"1 -", ""}, {"-(", ")"}}, slices.Concat(inExpr, inExpr, inExpr)...)
	around := append([]nest{{"while (-x) { x = (-1);", "}"}, {"if (((1))) { while (~1) { } } else {", "x = 2; }"}}, slices.Concat(inStmt, inStmt)...)
	for range 1000 {
		blocks := 1 + roll(102)
		if roll(2) == 0 {
			blocks = 1 + roll(10)
		}
		n := max(0, 95+roll(30)-blocks)
		head, tail := "thread {", "}"
		for range blocks - 1 {
			x := around[roll(len(around))]
			head, tail = head+x.open+" ", x.close+tail
		}
		end := inEnd[roll(len(inEnd))]
		head, tail = head+end.open, end.close+tail
		for range n {
			x := loose[roll(len(loose))]
			head, tail = head+x.open, x.close+tail
		}
		text := head + "1" + tail
		_, f := hold(t, text)
		codes[f.Code]++
		_, f = hold(t, text[:roll(len(text))])
		codes[f.Code]++
	}
	if codes[api.OK] < 100 || codes[api.EDEEP] < 200 || codes[api.ESYNTAX] < 200 {
		t.Errorf("not all is tried: %v", codes)
	}
}

// However long what can't be read is, the call ends.
func TestR1LongTexts(t *testing.T) {
	for _, s := range []string{"(", "-", "{", "thread {", "x = ", "if (1) {", "shared x;", "1 + ", "thread { x = 1; }", "else", "\n", "store(a["} {
		for _, head := range []string{"", "thread {", "thread { x = "} {
			text := head + strings.Repeat(s, (api.MaxText-len(head))/len(s))
			tokens, _ := lex.Lex([]byte(text))
			if _, f := lang.Parse([]byte(text)); f != modelFault(tokens) {
				t.Errorf("P6.1: %q, and %q often: %v", head, s, f)
			}
		}
	}
	text := "thread{x=1" + strings.Repeat("-1", 32760) + ";}"
	if x := read(t, text); !lang.Whole(x) || !lang.Same(x, read(t, strings.ReplaceAll(text, "{", "{ "))) {
		t.Error("P6.2: a sum of 32760")
	}
}
