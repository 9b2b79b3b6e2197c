package lang_test

import (
	"testing"

	"sextant/api"
	"sextant/lang"
)

// holdSame holds Same against the model, both ways round.
func holdSame(t *testing.T, a, b api.Tree, want bool) {
	t.Helper()
	if alike(a, b) != want {
		t.Fatalf("the test itself: %+v, %+v", a, b)
	}
	if lang.Same(a, b) != want || lang.Same(b, a) != want {
		t.Fatalf("P6.5: %v of %+v and %+v", !want, a, b)
	}
}

func TestP6_5NilIsEmpty(t *testing.T) {
	holdSame(t, api.Tree{}, api.Tree{Shared: []api.Shared{}, Threads: [][]api.Stmt{}, Places: []api.Pair{}}, true)
	holdSame(t, api.Tree{Threads: [][]api.Stmt{nil, {}}}, api.Tree{Threads: [][]api.Stmt{{}, nil}}, true)
	holdSame(t, api.Tree{}, api.Tree{Threads: [][]api.Stmt{nil}}, false)
	holdSame(t, api.Tree{Threads: [][]api.Stmt{nil}}, api.Tree{Threads: [][]api.Stmt{nil, nil}}, false)
	full := api.Stmt{Kind: api.SFence, Mode: 1, Args: []api.Expr{}, Body: []api.Stmt{}, Else: []api.Stmt{}, Place: api.Place{Index: []api.Expr{}}}
	holdSame(t, thread(full), thread(api.Stmt{Kind: api.SFence, Mode: 1}), true)
	holdSame(t, printOf(num(1)), printOf(api.Expr{Op: api.OpNum, Val: 1, Args: []api.Expr{}}), true)
	holdSame(t, read(t, "thread { if (1) { } }"), read(t, "thread { if (1) { } else { } }"), true)
}

func TestP6_5PlacesAside(t *testing.T) {
	a := read(t, "shared x, a[8]; thread { let r = load(a[1], acq); if (r) { fence(sc); } else { print(-r); } }")
	b := read(t, "shared x; shared a[8];\n\n\tthread\n{ let r = // α\n load(a[(1)],\tacq); if ((r)) {\n\n fence(sc); } else { print(- (r)); }}")
	if equal(a, b) {
		t.Fatal("the test itself: the places are the same")
	}
	holdSame(t, a, b, true)
	b.Places = nil
	holdSame(t, a, b, true)
	b.Places = []api.Pair{{A: -1, B: 7}, {}}
	holdSame(t, a, b, true)
}

// Trees that no program has are held against each other, too: each field but places counts.
func TestP6_5OneField(t *testing.T) {
	e := api.Expr{Op: 77, Val: 3, Name: "?", Args: []api.Expr{num(1), {}}}
	s := api.Stmt{Kind: 99, Let: true, Name: "sc", Place: api.Place{Name: "9", Index: []api.Expr{e, e}}, Args: []api.Expr{e}, Mode: -3, Body: []api.Stmt{{}}, Else: []api.Stmt{{}}}
	base := api.Tree{Shared: []api.Shared{{Name: "", Size: -7}, {Name: "x"}}, Threads: [][]api.Stmt{{s}, {s, s}}, Places: []api.Pair{{A: 1}}}
	changes := []func(t *api.Tree){
		func(t *api.Tree) { t.Shared = t.Shared[:1] },
		func(t *api.Tree) { t.Shared = append(t.Shared, api.Shared{}) },
		func(t *api.Tree) { t.Shared[0].Name = "y" },
		func(t *api.Tree) { t.Shared[1].Size = 1 },
		func(t *api.Tree) { t.Shared[0], t.Shared[1] = t.Shared[1], t.Shared[0] },
		func(t *api.Tree) { t.Threads = t.Threads[:1] },
		func(t *api.Tree) { t.Threads = append(t.Threads, nil) },
		func(t *api.Tree) { t.Threads[0], t.Threads[1] = t.Threads[1], t.Threads[0] },
		func(t *api.Tree) { t.Threads[1] = t.Threads[1][:1] },
	}
	for _, c := range []func(s *api.Stmt){
		func(s *api.Stmt) { s.Kind = 98 }, func(s *api.Stmt) { s.Let = false }, func(s *api.Stmt) { s.Name = "" }, func(s *api.Stmt) { s.Mode = 3 },
		func(s *api.Stmt) { s.Place.Name = "x" }, func(s *api.Stmt) { s.Place.Index = nil }, func(s *api.Stmt) { s.Place.Index = s.Place.Index[:1] }, func(s *api.Stmt) { s.Place.Index[1].Val++ },
		func(s *api.Stmt) { s.Args = nil }, func(s *api.Stmt) { s.Args = append(s.Args, num(0)) }, func(s *api.Stmt) { s.Args[0].Op++ }, func(s *api.Stmt) { s.Args[0].Val = 0 }, func(s *api.Stmt) { s.Args[0].Name = "" }, func(s *api.Stmt) { s.Args[0].Args = nil },
		func(s *api.Stmt) { s.Args[0].Args[1].Op = 1 }, func(s *api.Stmt) { s.Args[0].Args[0].Val = 2 }, func(s *api.Stmt) { s.Args[0].Args = append(s.Args[0].Args, api.Expr{}) },
		func(s *api.Stmt) { s.Body = nil }, func(s *api.Stmt) { s.Else = nil }, func(s *api.Stmt) { s.Body[0].Mode = 1 }, func(s *api.Stmt) { s.Else[0].Let = true }, func(s *api.Stmt) { s.Else = append(s.Else, api.Stmt{}) },
		func(s *api.Stmt) { s.Body, s.Else = append(s.Body, s.Else...), nil },
	} {
		changes = append(changes, func(t *api.Tree) { c(&t.Threads[0][0]) }, func(t *api.Tree) { c(&t.Threads[1][1]) })
	}
	holdSame(t, base, copyTree(base), true)
	for i, change := range changes {
		x := copyTree(base)
		change(&x)
		if alike(base, x) {
			t.Fatalf("the test itself: case %d", i)
		}
		holdSame(t, base, x, false)
		holdSame(t, x, copyTree(x), true)
	}
}

func TestP6_5MadePrograms(t *testing.T) {
	roll := dice(67)
	var last api.Tree
	same := 0
	for range 3000 {
		_, x, _ := made(roll, 2)
		want := alike(x, last)
		if want {
			same++
		}
		holdSame(t, x, last, want)
		holdSame(t, x, bare(x), true)
		last = x
	}
	if same == 0 {
		t.Error("no two are the same")
	}
}
