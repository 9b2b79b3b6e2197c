package cpu_test

import (
	"fmt"
	"slices"
	"strings"
	"testing"

	"sextant/api"
)

// four loads x2 to x5 by the reads 0 to 3; x1 is the first cell's address, x9 the second one's; nothing of either was read.
const four = base + "add x9, x1, #8\nldr x2, [x1]\nldr x3, [x1]\nldr x4, [x1]\nldr x5, [x1]\n"

// behind is the run of a listing behind four, all of whose wants are fed that.
func behind(t *testing.T, text string, v uint64) api.Run {
	t.Helper()
	m := machine(t, four+text+"\nhlt #0")
	for m.Feed(v) == api.OK {
	}
	r := m.Run()
	if r.State != api.Halted {
		t.Fatalf("%q: %+v", text, r)
	}
	return r
}

// sources are the first ones of pairs with that second one.
func sources(l []api.Pair, b int) string {
	var out []string
	for _, p := range l {
		if p.B == b {
			out = append(out, fmt.Sprint(p.A))
		}
	}
	return strings.Join(out, " ")
}

// holdLast holds on which reads the last event hangs: by its address, by its value, by the way.
func holdLast(t *testing.T, text string, v uint64, addr, data, ctrl string) {
	t.Helper()
	r := behind(t, text, v)
	b := len(r.Events) - 1
	if a, d, c := sources(r.Addr, b), sources(r.Data, b), sources(r.Ctrl, b); a != addr || d != data || c != ctrl {
		t.Errorf("P16.4: %q, fed %d: Addr %q, Data %q, Ctrl %q; want %q, %q, %q", text, v, a, d, c, addr, data, ctrl)
	}
}

// Taints, as each operation hands them on.
func TestP16_4Taints(t *testing.T) {
	for _, c := range []struct{ text, data string }{
		{"movz x7, #3", ""}, {"orr x7, x2, x2\nmovz x7, #3", ""}, {"orr x7, x2, x2\nmovk x7, #3", "0"}, {"orr x7, x2, x2\nmovk x7, #3, lsl #16", "0"}, {"orr x7, x2, x2\nmovk x7, #3, lsl #48", "0"}, {"movk x7, #3", ""}, {"orr x7, x2, x3\nmovk x7, #0\nmovk x7, #0, lsl #16\nmovk x7, #0, lsl #32\nmovk x7, #0, lsl #48", "0 1"},
		{"add x7, x2, x3", "0 1"}, {"sub x7, x3, x2", "0 1"}, {"and x7, x4, x2", "0 2"}, {"orr x7, x5, x2", "0 3"}, {"eor x7, x5, x4", "2 3"}, {"orn x7, x2, x5", "0 3"}, {"mul x7, x3, x4", "1 2"}, {"lsl x7, x2, x3", "0 1"}, {"lsr x7, x4, x3", "1 2"},
		{"add x7, x2, x1", "0"}, {"add x7, x1, x2", "0"}, {"add x7, x1, x9", ""}, {"add x7, x2, xzr", "0"}, {"add x7, xzr, x3", "1"}, {"add x7, xzr, xzr", ""}, {"eor x7, x2, x2", "0"}, {"sub x7, x2, x2", "0"}, {"and x7, x2, xzr", "0"}, {"mul x7, x2, xzr", "0"}, {"orn x7, xzr, x2", "0"},
		{"add x7, x2, #1", "0"}, {"sub x7, x3, #1", "1"}, {"lsl x7, x4, #63", "2"}, {"lsr x7, x5, #63", "3"}, {"lsr x7, x5, #0", "3"}, {"add x7, x1, #1", ""},
		{"add x7, x2, x3\nadd x7, x7, x4\nadd x7, x7, x5", "0 1 2 3"}, {"add x7, x5, x3\nadd x7, x7, x4\nadd x7, x7, x2", "0 1 2 3"}, {"add x6, x2, x3\nadd x7, x6, x6", "0 1"}, {"add x7, x2, x3\nadd x7, x4, x5", "2 3"}, {"add x7, x2, x3\nadd x7, x1, x1", ""},
		{"cmp x2, x3", ""}, {"cmp x2, x3\ncset x7, eq", "0 1"}, {"cmp x3, x4\ncset x7, ne", "1 2"}, {"cmp x2, xzr\ncset x7, hs", "0"}, {"cmp xzr, x5\ncset x7, lo", "3"}, {"cmp xzr, xzr\ncset x7, mi", ""}, {"cset x7, eq", ""}, {"orr x7, x2, x2\ncset x7, eq", ""}, {"cmp x2, x3\ncmp x4, x1\ncset x7, pl", "2"}, {"cmp x2, x3\ncmp x1, x9\ncset x7, vs", ""}, {"cmp x2, x3\nadd x2, x4, x5\ncset x7, vc", "0 1"}, {"cmp x2, x3\ncset x7, le\ncset x8, gt\nadd x7, x7, x8", "0 1"},
		{"cmp x2, x3\ncset xzr, eq\nadd x7, xzr, xzr", ""}, {"orr xzr, x2, x2\nadd x7, xzr, xzr", ""}, {"orr x7, x2, x2\nnop\nb .+1", "0"}, {"orr x7, x2, x2\nsvc #7", "0"},
	} {
		for _, v := range []uint64{0, 5} {
			holdLast(t, c.text+"\nstr x7, [x1]", v, "", c.data, "")
			holdLast(t, c.text+"\nstlr x7, [x9]", v, "", c.data, "")
			holdLast(t, c.text+"\nldxr x6, [x1]\nstxr w8, x7, [x1]", 1, "", c.data, "")
			holdLast(t, c.text+"\nswp x7, x6, [x1]", v, "", c.data, "")
			holdLast(t, c.text+"\nldadda x7, x6, [x1]", v, "", c.data, "")
			holdLast(t, fmt.Sprintf("%s\nmovz x6, #%d\ncasl x6, x7, [x1]", c.text, v), v, "", c.data, "")
		}
	}
}

// Of what no pair tells: the value of a fence there is none; what Cas compares with; a load's own value; a status.
func TestP16_4NoPairs(t *testing.T) {
	for _, c := range []struct{ text, addr, data, ctrl string }{
		{"cas x2, x3, [x1]", "", "1", ""}, {"cas x2, xzr, [x1]", "", "", ""}, {"cas x2, x2, [x1]", "", "0", ""}, {"casal x2, x9, [x1]", "", "", ""},
		{"add x6, x2, x3\ndmb sy", "", "", ""}, {"dmb ld", "", "", ""}, {"ldr x2, [x1]", "", "", ""}, {"ldxr x2, [x1]", "", "", ""}, {"swp xzr, x2, [x1]", "", "", ""}, {"ldadd xzr, x2, [x1]", "", "", ""}, {"ldadd x3, x2, [x1]", "", "1", ""},
		{"str xzr, [x1]", "", "", ""}, {"ldr x2, [x1]\nstr x2, [x1]", "", "4", ""}, {"ldr xzr, [x1]\nstr xzr, [x1]", "", "", ""},
		{"ldxr x6, [x1]\nstxr w7, x2, [x1]\nstr x7, [x1]", "", "", ""}, {"stxr w2, x3, [x1]\nstr x2, [x1]", "", "", ""}, {"ldxr x6, [x1]\nstxr w7, x2, [x1]\ncbnz x7, .+1\ndmb sy", "", "", ""},
		{"swp x2, x6, [x1]\nstr x6, [x1]", "", "4", ""}, {"cas x2, x3, [x1]\nstr x2, [x1]", "", "4", ""}, {"cas x2, x3, [x1]\nstr x3, [x1]", "", "1", ""}, {"swp x2, x6, [x1]\nstr x2, [x1]", "", "0", ""}, {"movz x6, #5\ncas x6, x3, [x1]\nstr x6, [x1]", "", "4", ""},
	} {
		holdLast(t, c.text, 1, c.addr, c.data, c.ctrl)
	}
}

// Addresses: each operation that has one.
func TestP16_4Addresses(t *testing.T) {
	for _, text := range each() {
		if strings.HasPrefix(text, "stxr") || strings.HasPrefix(text, "stlxr") {
			text = "ldxr x6, [x8]\n" + text
		}
		text = strings.NewReplacer("x3", "xa", "x4", "x7", "[x1]", "[x8]").Replace(text)
		text = strings.ReplaceAll(text, "xa", "x9")
		text = strings.ReplaceAll(text, "w4", "w7")
		for _, c := range []struct{ ahead, addr string }{
			{"add x8, x1, x2", "0"}, {"add x8, x2, x1", "0"}, {"add x8, x1, x3\nadd x8, x8, x5", "1 3"}, {"add x8, x1, #8", ""}, {"eor x8, x4, x4\nadd x8, x8, x1", "2"},
		} {
			m := machine(t, four+c.ahead+"\nmovz x9, #0\nmovz x7, #0\n"+text+"\nhlt #0")
			fed(t, text, m, 0, 0, 0, 0)
			for v := uint64(0); ; { // 1 for an exclusive store alone
				if w := m.Next(); w.What == api.WantStore {
					v = 1
				}
				if m.Feed(v) != api.OK {
					break
				}
			}
			r := m.Run()
			if r.State != api.Halted || len(r.Events) < 5 {
				t.Fatalf("%s: %+v", text, r)
			}
			for b := 4; b < len(r.Events); b++ {
				if got := sources(r.Addr, b); got != c.addr {
					t.Errorf("P16.4: %s behind %q: Addr %q of %d, want %q", text, c.ahead, got, b, c.addr)
				}
				if d, k := sources(r.Data, b), sources(r.Ctrl, b); d != "" || k != "" {
					t.Errorf("P16.4: %s behind %q: Data %q, Ctrl %q of %d", text, c.ahead, d, k, b)
				}
			}
		}
	}
}

// The way: branches add to it, taken or not; it never loses any.
func TestP16_4Ways(t *testing.T) {
	for _, c := range []struct{ text, ctrl string }{
		{"b .+1", ""}, {"b .+2\nnop", ""}, {"cbz x2, .+1", "0"}, {"cbz x2, .+2\nnop", "0"}, {"cbnz x3, .+1", "1"}, {"cbnz x3, .+2\nnop", "1"}, {"cbz x1, .+1", ""}, {"cbnz x1, .+2\nnop", ""}, {"cbz xzr, .+1", ""}, {"cbnz xzr, .+1", ""},
		{"b.eq .+1", ""}, {"cmp x2, x3\nb.eq .+1", "0 1"}, {"cmp x2, x3\nb.ne .+2\nnop", "0 1"}, {"cmp x4, xzr\nb.hs .+1", "2"}, {"cmp xzr, x4\nb.lo .+1", "2"}, {"cmp x1, x1\nb.mi .+1", ""}, {"cmp x2, x3", ""}, {"cmp x2, x3\ncset x7, eq", ""}, {"cmp x2, x3\ncmp x4, x4\nb.pl .+1", "2"}, {"cmp x2, x2\nb.vs .+1\ncmp x3, x3\nb.vc .+1", "0 1"},
		{"cbz x2, .+1\ncbz x3, .+1", "0 1"}, {"cbz x5, .+1\ncbz x2, .+1", "0 3"}, {"cbz x2, .+1\ncbz x2, .+1", "0"}, {"add x7, x2, x5\ncbnz x7, .+1", "0 3"}, {"cbz x2, .+1\nmovz x2, #0\ncbz x2, .+1", "0"}, {"cmp x2, x3\ncset x7, ge\ncbz x7, .+1", "0 1"}, {"cbz x2, .+1\nb .+1\nnop", "0"},
		{"ldr x6, [x1]\ncbz x6, .+1", "4"}, {"ldr x6, [x1]\ncbz x2, .+1", "0"}, {"orr xzr, x2, x2\ncbz xzr, .+1", ""}, {"svc #2", ""}, {"add x7, x2, x3", ""},
	} {
		for _, v := range []uint64{0, 1, 7} {
			for _, last := range []string{"ldr x6, [x1]", "str xzr, [x1]", "dmb ld", "dmb sy", "stlr xzr, [x1]", "ldapr x6, [x1]", "ldaxr x6, [x1]", "swp xzr, x6, [x1]", "movz x6, #" + fmt.Sprint(v) + "\ncas x6, xzr, [x1]", "movz x6, #9\ncas x6, xzr, [x1]"} {
				holdLast(t, c.text+"\n"+last, v, "", "", c.ctrl)
			}
		}
		holdLast(t, c.text+"\nldxr x6, [x1]\nstxr w7, xzr, [x1]", 1, "", "", c.ctrl)
	}
	r := behind(t, "str xzr, [x1]\ncbz x2, .+1\nldr x6, [x1]\ncbz x6, .+1\ndmb sy\nstr xzr, [x1]", 0) // what stands ahead of a branch does not hang on it
	if want := pairs(0, 5, 0, 6, 0, 7, 5, 6, 5, 7); !slices.Equal(r.Ctrl, want) {
		t.Errorf("P16.4: Ctrl %v, want %v", r.Ctrl, want)
	}
}

// Each list rises, by the first ones and then by the second ones, and has each pair once.
func TestP16_4InOrder(t *testing.T) {
	m := machine(t, four+"add x7, x2, x3\nadd x7, x7, x7\nadd x8, x1, x5\nadd x8, x8, x2\nstr x7, [x8]\ncbz x4, .+1\ncbz x2, .+1\ncbz x2, .+1\nldr x6, [x8]\nstr x7, [x8]\nldxr x2, [x8]\nstxr w10, x6, [x8]\nswp x7, x6, [x8]\ndmb sy\nhlt #0")
	fed(t, "in order", m, 0, 0, 0, 0, 0, 0, 0, 0, 1, 0, 0, 0)
	told(t, "in order", m, wantHalt)
	p := api.Plain
	holdRun(t, "P16.4: in order", m.Run(), api.Run{
		Events: []api.Event{read(0, 0, p), read(0, 0, p), read(0, 0, p), read(0, 0, p), write(0, 0, p), read(0, 0, p), write(0, 0, p), read(0, 0, p), write(0, 0, p), read(0, 0, p), write(0, 0, p), barrier(api.FenceSy)},
		Rmw:    pairs(7, 8, 9, 10),
		Addr:   pairs(0, 4, 0, 5, 0, 6, 0, 7, 0, 8, 0, 9, 0, 10, 3, 4, 3, 5, 3, 6, 3, 7, 3, 8, 3, 9, 3, 10),
		Data:   pairs(0, 4, 0, 6, 0, 10, 1, 4, 1, 6, 1, 10, 5, 8),
		Ctrl:   pairs(0, 5, 0, 6, 0, 7, 0, 8, 0, 9, 0, 10, 0, 11, 2, 5, 2, 6, 2, 7, 2, 8, 2, 9, 2, 10, 2, 11),
		State:  api.Halted, Used: 7,
	})
}

// Taints of all reads that there may be, in one register, one address, one way.
func TestP16_4ManyReads(t *testing.T) {
	m := machine(t, base+"movz x20, #255\nl: ldr x2, [x1]\nadd x3, x3, x2\nsub x20, x20, #1\ncbnz x20, l\nstr x3, [x1]\nhlt #0")
	fed(t, "many reads", m, make([]uint64, api.MaxEvents)...)
	told(t, "many reads", m, wantHalt)
	r := m.Run()
	var want []api.Pair
	for a := range api.MaxEvents - 1 {
		want = append(want, api.Pair{A: a, B: api.MaxEvents - 1})
	}
	if !slices.Equal(r.Data, want) || len(r.Ctrl)+len(r.Addr)+len(r.Rmw) != 0 || len(r.Events) != api.MaxEvents || r.Used != api.MaxEvents-1 {
		t.Errorf("P16.4: many reads: Data %v", r.Data)
	}
	m = machine(t, base+"l: ldr x2, [x1]\nadd x1, x1, x2\ncbz x2, l\nhlt #0")
	fed(t, "each hangs on all", m, make([]uint64, api.MaxEvents)...)
	told(t, "each hangs on all", m, wantFuel)
	r = m.Run()
	want = nil
	for a := range api.MaxEvents {
		for b := a + 1; b < api.MaxEvents; b++ {
			want = append(want, api.Pair{A: a, B: b})
		}
	}
	if !slices.Equal(r.Addr, want) || !slices.Equal(r.Ctrl, want) || len(r.Data) != 0 {
		t.Errorf("P16.4: each hangs on all: %d and %d pairs, want %d", len(r.Addr), len(r.Ctrl), len(want))
	}
}

// Run tells the state by what would be wanted, and does nothing itself.
func TestP16_4States(t *testing.T) {
	for _, c := range []struct {
		text       string
		values     []uint64
		state, loc int
	}{
		{"hlt #0", nil, api.Halted, 0}, {"movz x5, #1\nhlt #0", nil, api.Halted, 0}, {"", nil, api.Faulty, 0}, {"nop\nb .-2", nil, api.Faulty, 0}, {"b .+0", nil, api.Spent, 0}, {base + "nop\nldr x5, [x1, #40]", nil, api.Hungry, 5}, {base + "ldaxr x5, [x1]", nil, api.Hungry, 0}, {base + "add x1, x1, #16\nswp x5, x5, [x1]", nil, api.Hungry, 2},
		{base + "movz x5, #3\nstr x5, [x1, #40]", nil, 0, 0}, {base + "stlr x5, [x1]", nil, 0, 0}, {"dmb sy", nil, 0, 0}, {"movz x5, #3\nsvc #5", nil, 0, 0}, {base + "add x1, x1, #16\nldxr x5, [x1]\nmovz x5, #4\nstxr w6, x5, [x1]", []uint64{7}, api.Undecided, 2}, {base + "add x1, x1, #16\nswp x5, x5, [x1]", []uint64{7}, 0, 0}, {base + "ldr x5, [x5]", nil, api.Faulty, 0}, {base + "stxr w5, x4, [x1]\nhlt #0", nil, api.Halted, 0},
	} {
		m := machine(t, c.text)
		fed(t, c.text, m, c.values...)
		before := registers(m)
		for range 3 {
			if r := m.Run(); r.State != c.state || r.Loc != c.loc {
				t.Errorf("P16.4: %q: state %d, cell %d; want %d, %d", c.text, r.State, r.Loc, c.state, c.loc)
			}
		}
		if registers(m) != before {
			t.Errorf("P16.4: %q: Run does something: %v, was %v", c.text, registers(m), before)
		}
		m.Next()
		if r := m.Run(); r.State != c.state || r.Loc != c.loc {
			t.Errorf("P16.4: %q, asked: state %d, cell %d; want %d, %d", c.text, r.State, r.Loc, c.state, c.loc)
		}
	}
	m := machine(t, counted(api.MaxFuel)+"hlt #0") // nor does Run use up any fuel
	for range 5 {
		m.Run()
	}
	told(t, "behind Run", m, wantHalt)
}
