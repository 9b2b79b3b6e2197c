package cpu_test

import (
	"fmt"
	"math"
	"slices"
	"strings"
	"testing"

	"sextant/api"
	"sextant/code"
	"sextant/cpu"
)

// edges are numbers at which something changes.
var edges = []uint64{0, 1, 2, 3, 5, 62, 63, 64, 65, 127, 128, 1 << 16, 1<<16 - 1, 1 << 32, 1<<32 - 1, 1<<62 + 1, 1<<63 - 1, 1 << 63, 1<<63 + 1, top - 64, top - 1, top}

// halts runs a listing that wants nothing, and holds a register.
func halts(t *testing.T, text string, register int, want uint64) {
	t.Helper()
	m := machine(t, text+"\nhlt #0")
	told(t, text, m, wantHalt)
	holdReg(t, text, m, register, want)
}

// Every row of the chapter's table that computes, by hand.
func TestP16_2ByHand(t *testing.T) {
	two := set(2, 12) + set(3, 10)
	for _, c := range []struct {
		text string
		want uint64
	}{
		{"movz x4, #65535", 65535}, {"movz x4, #1, lsl #16", 1 << 16}, {"movz x4, #2, lsl #32", 2 << 32}, {"movz x4, #65535, lsl #48", 0xffff << 48},
		{"orn x4, xzr, xzr\nmovz x4, #7", 7}, {"orn x4, xzr, xzr\nmovz x4, #7, lsl #48", 7 << 48},
		{"orn x4, xzr, xzr\nmovk x4, #7", top - 65535 + 7}, {"orn x4, xzr, xzr\nmovk x4, #0, lsl #16", 0xffffffff0000ffff}, {"orn x4, xzr, xzr\nmovk x4, #4660, lsl #32", 0xffff1234ffffffff}, {"orn x4, xzr, xzr\nmovk x4, #1, lsl #48", 0x0001ffffffffffff},
		{"movk x4, #65535", 65535}, {"movk x4, #65535, lsl #16", 65535 << 16}, {"movk x4, #65535, lsl #32", 65535 << 32}, {"movk x4, #65535, lsl #48", 65535 << 48},
		{"movz x4, #1\nmovk x4, #2, lsl #16\nmovk x4, #3, lsl #32\nmovk x4, #4, lsl #48", 0x0004000300020001},
		{"add x4, x2, x3", 22}, {"sub x4, x2, x3", 2}, {"sub x4, x3, x2", top - 1}, {"and x4, x2, x3", 8}, {"orr x4, x2, x3", 14}, {"eor x4, x2, x3", 6}, {"orn x4, x2, x3", top - 2}, {"mul x4, x2, x3", 120}, {"lsl x4, x2, x3", 12288}, {"lsr x4, x2, x3", 0}, {"lsr x4, x2, x5", 12},
		{"add x4, x2, #4095", 4107}, {"add x4, x2, #0", 12}, {"sub x4, x2, #12", 0}, {"sub x4, x2, #13", top}, {"sub x4, x2, #4095", 12 + top - 4094}, {"lsl x4, x2, #1", 24}, {"lsl x4, x2, #60", 12 << 60 & top}, {"lsl x4, x3, #63", 0}, {"lsr x4, x2, #0", 12}, {"lsr x4, x2, #2", 3}, {"lsr x4, x2, #63", 0}, {"orn x4, xzr, xzr\nlsr x4, x4, #63", 1}, {"orn x4, xzr, xzr\nlsr x4, x4, #1", 1<<63 - 1}, {"orn x4, xzr, xzr\nlsl x4, x4, #63", 1 << 63},
		{"orn x4, xzr, xzr\nmul x4, x4, x4", 1}, {"orn x4, xzr, xzr\nadd x4, x4, x4", top - 1}, {"orn x4, xzr, xzr\nadd x4, x4, #1", 0}, {"orn x4, xzr, x2", top - 12},
		{"cmp x2, x3\ncset x4, hi", 1}, {"cmp x3, x2\ncset x4, hi", 0}, {"orn x4, xzr, xzr\ncmp x2, x2\ncset x4, eq", 1}, {"orn x4, xzr, xzr\ncmp x2, x2\ncset x4, ne", 0},
		{"nop", 0}, {"orn x4, xzr, xzr\nnop\nnop", top},
	} {
		halts(t, two+c.text, 4, c.want)
	}
	for n := range 31 { // all others stay as they are
		if n < 2 || n > 4 {
			halts(t, two+"add x4, x2, x3", n, 0)
		}
	}
	halts(t, two+"eor x4, x2, x3", 2, 12)
	halts(t, two+"eor x4, x2, x3", 3, 10)
}

// Each operation of two numbers, at the edges and anywhere, in registers of which some are one.
func TestP16_2Operations(t *testing.T) {
	roll := dice(16001)
	for _, op := range []int{code.Add, code.Sub, code.And, code.Orr, code.Eor, code.Orn, code.Mul, code.Lsl, code.Lsr} {
		for _, a := range edges {
			for _, b := range edges {
				b += uint64(roll(2)*roll(70)) << roll(64)
				d, n, k := roll(31), roll(31), roll(31)
				if n == k {
					b = a
				}
				text := set(n, a) + set(k, b) + listing(api.Ins{Op: op, Rd: d, Rn: n, Rm: k})
				halts(t, text, d, modelTwo(op, a, b))
			}
		}
	}
	for _, op := range []int{code.Addi, code.Subi, code.Lsli, code.Lsri} {
		for _, a := range edges {
			for _, b := range []int64{0, 1, 2, 31, 32, 62, 63, 64, 4094, 4095, int64(roll(64)), int64(roll(4096))} {
				i := api.Ins{Op: op, Rd: roll(31), Rn: roll(31), Imm: b}
				if code.Fits(i) {
					halts(t, set(i.Rn, a)+listing(i), i.Rd, modelTwo(op, a, uint64(b)))
				}
			}
		}
	}
}

// Shifts by a register go by its lowest six bits; 0 comes in.
func TestP16_2Shifts(t *testing.T) {
	const v = 0x8000_0000_0000_0001
	for _, c := range []struct{ by, left, right uint64 }{
		{0, v, v}, {1, 2, 1 << 62}, {62, 1 << 62, 2}, {63, 1 << 63, 1}, {64, v, v}, {65, 2, 1 << 62}, {127, 1 << 63, 1}, {128, v, v}, {1 << 32, v, v}, {1<<32 + 1, 2, 1 << 62}, {top, 1 << 63, 1}, {top - 63, v, v}, {1 << 63, v, v},
	} {
		halts(t, set(2, v)+set(3, c.by)+"lsl x4, x2, x3", 4, c.left)
		halts(t, set(2, v)+set(3, c.by)+"lsr x4, x2, x3", 4, c.right)
	}
}

// Movk at each of its places leaves the other three.
func TestP16_2Movk(t *testing.T) {
	for at := range 4 {
		for _, was := range edges {
			for _, v := range []uint64{0, 1, 0x8000, 0xffff} {
				want := was&^(0xffff<<(16*at)) + v<<(16*at)
				halts(t, set(7, was)+listing(api.Ins{Op: code.Movk, Rd: 7, Imm: int64(v), Cond: at}), 7, want)
				halts(t, set(7, was)+listing(api.Ins{Op: code.Movz, Rd: 7, Imm: int64(v), Cond: at}), 7, v<<(16*at))
			}
		}
	}
}

// The flags of differences that fit and of such as do not, with signs and without, asked by all fourteen conditions, of Cset and of a branch.
func TestP16_2Conditions(t *testing.T) {
	for _, c := range []struct {
		a, b uint64
		want string
	}{
		{5, 5, "eq hs pl vc ls ge le"}, {0, 0, "eq hs pl vc ls ge le"}, {top, top, "eq hs pl vc ls ge le"}, {1 << 63, 1 << 63, "eq hs pl vc ls ge le"},
		{5, 4, "ne hs pl vc hi ge gt"}, {4, 5, "ne lo mi vc ls lt le"}, {0, 1, "ne lo mi vc ls lt le"}, {0, top, "ne lo pl vc ls ge gt"}, {top, 0, "ne hs mi vc hi lt le"},
		{1 << 63, 1, "ne hs pl vs hi lt le"}, {1, 1 << 63, "ne lo mi vs ls ge gt"}, {0, 1 << 63, "ne lo mi vs ls ge gt"}, {1 << 63, 0, "ne hs mi vc hi lt le"},
		{1<<63 - 1, top, "ne lo mi vs ls ge gt"}, {top, 1<<63 - 1, "ne hs mi vc hi lt le"}, {1 << 63, 1<<63 - 1, "ne hs pl vs hi lt le"}, {1<<63 - 1, 1 << 63, "ne lo mi vs ls ge gt"},
	} {
		if got := holding(c.a, c.b); got != c.want {
			t.Fatalf("of %d and %d: %q hold, want %q", c.a, c.b, got, c.want)
		}
	}
	kinds := map[string]bool{}
	for _, a := range edges {
		for _, b := range edges {
			want := holding(a, b)
			kinds[want] = true
			holdConditions(t, set(2, a)+set(3, b)+"cmp x2, x3\n", want)
		}
	}
	if len(kinds) != 7 {
		t.Errorf("not all is tried: %d kinds of flags", len(kinds))
	}
	holdConditions(t, "", "ne lo pl vc ls ge gt") // ahead of the first comparison none is set
	holdConditions(t, set(2, 4)+"cmp x2, xzr\n", "ne hs pl vc hi ge gt")
	holdConditions(t, set(2, 4)+"cmp xzr, x2\n", "ne lo mi vc ls lt le")
	holdConditions(t, "cmp xzr, xzr\n", "eq hs pl vc ls ge le")
	holdConditions(t, set(2, 4)+"cmp x2, xzr\ncmp xzr, x2\n", "ne lo mi vc ls lt le")
	holdConditions(t, set(2, 4)+"cmp xzr, x2\nsub x3, x2, x2\nadd x3, x2, #1\nmovz x3, #0\ncbz x3, .+1\nnop\n", "ne lo mi vc ls lt le") // nothing else sets them
}

// holdConditions holds which conditions do behind a listing.
func holdConditions(t *testing.T, text, want string) {
	t.Helper()
	var bySet, byBranch []string
	for _, name := range condNames {
		m := machine(t, text+"cset x9, "+name+"\nmovz x10, #1\nb."+name+" .+2\nmovz x10, #0\nhlt #0")
		told(t, text, m, wantHalt)
		if m.Reg(9) == 1 {
			bySet = append(bySet, name)
		} else {
			holdReg(t, text+name, m, 9, 0)
		}
		if m.Reg(10) == 1 {
			byBranch = append(byBranch, name)
		}
	}
	if got := strings.Join(bySet, " "); got != want {
		t.Fatalf("P16.2: %q: by Cset %q hold, want %q", text, got, want)
	}
	if got := strings.Join(byBranch, " "); got != want {
		t.Fatalf("P16.2: %q: by branches %q hold, want %q", text, got, want)
	}
}

// Branches: whether they are taken, where they lead.
func TestP16_2Branches(t *testing.T) {
	const from = "movz x5, #1\n" // where a branch leads that is not taken
	for _, c := range []struct {
		text  string
		taken bool
	}{
		{"b .+2", true}, {"cbz x2, .+2", true}, {"cbnz x2, .+2", false}, {"cbz xzr, .+2", true}, {"cbnz xzr, .+2", false},
		{"movz x2, #1\ncbz x2, .+2", false}, {"movz x2, #1\ncbnz x2, .+2", true}, {"movz x2, #1, lsl #48\ncbz x2, .+2", false}, {"movz x2, #1, lsl #48\ncbnz x2, .+2", true}, {"movz x2, #32768, lsl #48\ncbnz x2, .+2", true},
		{"b.eq .+2", false}, {"b.ne .+2", true}, {"cmp x2, x2\nb.eq .+2", true}, {"cmp x2, x2\nb.ne .+2", false},
	} {
		want := uint64(1)
		if c.taken {
			want = 0
		}
		halts(t, c.text+"\n"+from+"nop", 5, want)
		halts(t, c.text+"\n"+from, 5, want) // just ahead of the last word
		m := machine(t, c.text+"\n"+from)   // one past it
		told(t, c.text, m, wantFault)
		holdReg(t, c.text, m, 5, want)
	}
	halts(t, "b .+4\nmovz x5, #3\nhlt #0\nnop\nb .-3", 5, 3)
	halts(t, "movz x3, #5\nl: add x5, x5, x3\nsub x3, x3, #1\ncbnz x3, l", 5, 15)
	halts(t, "cbz x5, .+2\nhlt #0\nmovz x5, #7\nb .-3", 5, 7) // to the first word
	halts(t, "movz x5, #1\nb .+1\nb .+1", 5, 1)
}

// A place that is not among the words: at once, or behind others; however it is come to.
func TestP16_2Places(t *testing.T) {
	for _, text := range []string{
		"", "nop", "b .-1", "b .+1", "b .+2", "nop\nb .-2", "nop\nb .-3", "b .+33554431", "b .-33554432", "nop\nb .+33554431", "nop\nb .-33554432",
		"cbz x1, .-1", "cbz x1, .+262143", "cbz x1, .-262144", "b.ne .-1", "b.ne .+262143", "b.ne .-262144", "cbnz x1, .-1", "movz x1, #1\ncbnz x1, .-2", "movz x1, #1\ncbnz x1, .+1", "movz x1, #1\ncbnz x1, .+262143", "movz x1, #1\ncbnz x1, .-262144", "b.eq .-1",
		"b .+2\nhlt #0\nb .+2", "stxr w4, x3, [x1]",
	} {
		m := machine(t, text)
		told(t, text, m, wantFault)
		notFed(t, text, m, 0, 1, 2, top)
		holdRun(t, "P16.4: "+text, m.Run(), api.Run{State: api.Faulty})
		holdRun(t, "P16.5: "+text, replay(t, words(t, text), []uint64{1}, []bool{true}, 100), api.Run{State: api.Faulty})
	}
	m := machine(t, "svc #3\nb .-2")
	fed(t, "behind a print", m, 0)
	told(t, "behind a print", m, wantFault)
	holdRun(t, "P16.4: behind a print", m.Run(), api.Run{State: api.Faulty, Outs: []uint64{0}})
	m = machine(t, "hlt #0\nnop")
	told(t, "a halt is no fault", m, wantHalt)
}

// The register 31 is 0 as a source, and takes nothing as a target, of whatever operation.
func TestP16_2RegisterZero(t *testing.T) {
	full := base + set(2, top)
	for _, text := range []string{
		"movz xzr, #5", "movk xzr, #5, lsl #16", "add xzr, x2, x2", "sub xzr, xzr, x2", "and xzr, x2, x2", "orr xzr, x2, x2", "eor xzr, x2, xzr", "orn xzr, x2, x2", "mul xzr, x2, x2", "lsl xzr, x2, xzr", "lsr xzr, x2, xzr", "lsl xzr, x2, #1", "lsr xzr, x2, #1", "cset xzr, ne",
		"ldr xzr, [x1, #8]", "ldar xzr, [x1]", "ldapr xzr, [x1]", "ldxr xzr, [x1]", "ldaxr xzr, [x1]",
	} {
		m := machine(t, full+text+"\nadd x3, xzr, xzr\ncbz xzr, .+2\nhlt #0\nstr xzr, [x1, #16]\nadd x4, x2, xzr\nhlt #0")
		if w := m.Next(); w.What == api.WantLoad {
			fed(t, text, m, 77)
		}
		told(t, text, m, wantStore(2, 0, api.Plain))
		fed(t, text, m, 0)
		told(t, text, m, wantHalt)
		holdReg(t, text, m, 31, 0)
		holdReg(t, text, m, 3, 0)
		holdReg(t, text, m, 4, top)
		if n := len(m.Run().Data); n != 0 {
			t.Errorf("P16.4: %s: the register 31 has taints: %d pairs", text, n)
		}
	}
	for _, c := range []struct {
		text string
		want uint64
	}{
		{"add x4, xzr, x2", top}, {"add x4, x2, xzr", top}, {"sub x4, xzr, x2", 1}, {"sub x4, x2, xzr", top}, {"and x4, x2, xzr", 0}, {"and x4, xzr, x2", 0}, {"orr x4, xzr, x2", top}, {"orr x4, x2, xzr", top}, {"eor x4, xzr, x2", top}, {"eor x4, x2, xzr", top}, {"orn x4, xzr, x2", 0}, {"orn x4, x2, xzr", top}, {"orn x4, xzr, xzr", top},
		{"mul x4, xzr, x2", 0}, {"mul x4, x2, xzr", 0}, {"lsl x4, xzr, x2", 0}, {"lsl x4, x2, xzr", top}, {"lsr x4, xzr, x2", 0}, {"lsr x4, x2, xzr", top}, {"lsl x4, xzr, #3", 0}, {"lsr x4, xzr, #3", 0},
	} {
		halts(t, full+c.text, 4, c.want)
	}
}

// Instructions of the machine's own, as many as there may be since it was last fed, and one more; of whatever kind.
func TestP16_2Fuel(t *testing.T) {
	full, less := counted(api.MaxFuel), counted(api.MaxFuel-1)
	for _, last := range []struct {
		text string
		want api.Want
	}{
		{"hlt #0", wantHalt}, {"", wantFault}, {"svc #3", wantPrint(0)}, {"dmb sy", wantFence(api.FenceSy)}, {"ldr x4, [x3]", wantFault}, {"stxr w4, x3, [x5]", wantFault},
	} {
		told(t, "as many as may be, then "+last.text, machine(t, full+last.text), last.want)
		for _, more := range []string{"nop", "b .+1", "movz x9, #1", "movk x9, #1", "cmp x9, x9", "b.eq .+1", "cset x9, ne", "cbz x9, .+1", "cbnz x9, .+1", "add x9, x9, #1", "orn x9, x9, x9"} {
			told(t, "as many as may be, with "+more, machine(t, less+more+"\n"+last.text), last.want)
			m := machine(t, full+more+"\n"+last.text)
			told(t, "one more: "+more, m, wantFuel)
			notFed(t, "one more: "+more, m, 0, 1, top)
			holdReg(t, more, m, 9, 0)
			holdRun(t, "P16.4: one more: "+more, m.Run(), api.Run{State: api.Spent})
		}
	}
	told(t, "an exclusive store by itself", machine(t, counted(api.MaxFuel-2)+base+"stxr w4, x3, [x1]\nhlt #0"), wantHalt)
	told(t, "an exclusive store too many", machine(t, counted(api.MaxFuel-1)+base+"stxr w4, x3, [x1]\nhlt #0"), wantFuel)
	for _, text := range []string{"b .+0", "nop\nb .-1", "l: cbz x3, l", "l: b.ne l", base + "l: stxr w4, x3, [x1]\nb l"} {
		m := machine(t, text)
		told(t, text, m, wantFuel)
		notFed(t, text, m, 0, 1, 5)
		holdRun(t, "P16.4: "+text, m.Run(), api.Run{State: api.Spent})
		told(t, text, m.Clone(), wantFuel)
	}
}

// counted is a listing of so many instructions of a machine's own; it changes x20 and the flags.
func counted(own int) string {
	text := strings.Builder{}
	if own > 1000 { // a loop of eight words a round, and two to begin with
		rounds := (own - 10) / 8
		text.WriteString(listing(api.Ins{Op: code.Movz, Rd: 20, Imm: int64(rounds)}))
		text.WriteString("nop\nsub x20, x20, #1\nnop\nnop\nnop\nnop\nnop\nnop\ncbnz x20, .-7\n")
		own -= 2 + 8*rounds
	}
	text.WriteString(strings.Repeat("nop\n", own))
	return text.String()
}

// Each Feed begins a new count: what was done ahead of it does not matter; one in vain begins none.
func TestP16_2FuelSinceTheLastFeed(t *testing.T) {
	for _, c := range []struct {
		text   string
		values []uint64 // what is fed
	}{
		{"svc #2", []uint64{0}}, {"dmb ld", []uint64{0}}, {"ldr x3, [x1]", []uint64{0}}, {"str x3, [x1]", []uint64{0}}, {"swp x3, x4, [x1]", []uint64{7, 0}}, {"cas x3, x4, [x1]", []uint64{7}}, {"cas x3, x4, [x1]", []uint64{0, 0}}, {"ldxr x3, [x1]\nstxr w4, x3, [x1]", []uint64{0, 0}}, {"ldxr x3, [x1]\nstxr w4, x3, [x1]", []uint64{0, 1}},
	} {
		for _, more := range []int{0, 1} {
			first := base + counted(api.MaxFuel-1) + c.text + "\n"
			m := machine(t, first+counted(api.MaxFuel+more)+"hlt #0")
			fed(t, c.text, m, c.values...)
			want := wantHalt
			if more == 1 {
				want = wantFuel
			}
			told(t, fmt.Sprintf("%s, then MaxFuel and %d", c.text, more), m, want)
			k := m.Clone()
			told(t, "a clone", k, want)
		}
		m := machine(t, base+counted(api.MaxFuel)+c.text)
		told(t, "too late: "+c.text, m, wantFuel)
		notFed(t, "too late: "+c.text, m, c.values...)
	}
	m := machine(t, base+"ldxr x2, [x1]\nstxr w4, x2, [x1]\n"+counted(api.MaxFuel)+"hlt #0") // a store that is refused a value
	fed(t, "a pair", m, 1)
	notFed(t, "a pair", m, 2, top)
	fed(t, "a pair", m, 1)
	told(t, "a pair", m, wantHalt)
	m = machine(t, base+counted(api.MaxFuel)+"hlt #0")
	told(t, "one more", m, wantFuel)
	notFed(t, "one more", m, 0)
	told(t, "fed in vain", m, wantFuel)
}

// Feed without Next does what is the machine's own ahead of what is wanted, and nothing behind it.
func TestP16_3WithoutNext(t *testing.T) {
	text := base + "movz x2, #5\nldr x3, [x1]\nmovz x2, #6\nsvc #2\nmovz x2, #7\nstr x2, [x1, #8]\nmovz x2, #8\ndmb sy\nmovz x2, #9\nldadd x2, x3, [x1]\nmovz x2, #10\nhlt #0"
	m, asked := machine(t, text), machine(t, text)
	for i, v := range []uint64{30, 31, 32, 33, 34, 35} {
		fed(t, text, m, v)
		asked.Next()
		fed(t, text, asked, v)
		if got := registers(m); got != registers(asked) {
			t.Fatalf("P16.3: fed %d: %v without Next, %v with one", i, got, registers(asked))
		}
		holdReg(t, text, m, 2, []uint64{5, 6, 7, 8, 9, 9}[i])
		holdRun(t, "P16.3: without Next", m.Run(), asked.Run())
	}
	if e := m.Feed(0); e != api.EARG {
		t.Errorf("P16.3: at the end: %v", e)
	}
	holdReg(t, "at the end", m, 2, 10)
	holdReg(t, "at the end", m, 3, 34)
}

// Of whatever is wanted that is no load and no exclusive store, the value makes no difference.
func TestP16_3Values(t *testing.T) {
	for _, text := range []string{"str x3, [x1]", "stlr x3, [x1]", "dmb ld", "dmb sy", "svc #3"} {
		var first api.Run
		for i, v := range []uint64{0, 1, 2, 1 << 63, top} {
			m := machine(t, base+set(3, 9)+text+"\nhlt #0")
			fed(t, text, m, v)
			told(t, text, m, wantHalt)
			if i == 0 {
				first = m.Run()
			}
			holdRun(t, "P16.3: "+text, m.Run(), first)
			holdReg(t, text, m, 3, 9)
		}
	}
	for _, v := range []uint64{0, 1, 2, 1 << 63, top} {
		for _, text := range []string{"ldr x3, [x1]", "ldar x3, [x1]", "ldapr x3, [x1]", "ldxr x3, [x1]", "ldaxr x3, [x1]"} {
			m := machine(t, base+text+"\nhlt #0")
			fed(t, text, m, v)
			holdReg(t, text, m, 3, v)
			told(t, text, m, wantHalt)
			if r := m.Run(); r.Events[0].Val != v || r.Used != 1 {
				t.Errorf("P16.4: %s, fed %d: %+v", text, v, r)
			}
		}
	}
}

// What is not fed stays as it is: an exclusive store with a value that is neither 0 nor 1.
func TestP16_3Refused(t *testing.T) {
	for _, text := range []string{"stxr w4, x3, [x1]", "stlxr w4, x3, [x1]"} {
		m := machine(t, base+set(3, 9)+"movz x4, #6\nldxr x2, [x1]\n"+text+"\nhlt #0")
		fed(t, text, m, 8)
		for range 3 {
			notFed(t, text, m, 2, 3, 256, 257, 1<<32, 1<<63, top)
			holdReg(t, text, m, 4, 6)
		}
		fed(t, text, m, 1)
		holdReg(t, text, m, 4, 0)
		if got := m.Run(); got.State != api.Halted || !slices.Equal(got.Rmw, pairs(0, 1)) {
			t.Errorf("P16.4: %s: %+v", text, got)
		}
	}
	for _, text := range []string{"hlt #0", "", "b .+0"} {
		m := machine(t, text)
		for range 3 {
			notFed(t, text, m, 0, 1, 2, math.MaxInt64, top)
		}
	}
}

// The machine goes on with what New was given, at each of all words.
func TestP16_2LongWay(t *testing.T) {
	add, _ := code.Encode(api.Ins{Op: code.Addi, Rd: 7, Rn: 7, Imm: 1})
	hlt, _ := code.Encode(api.Ins{Op: code.Hlt})
	w := append(slices.Repeat([]uint32{add}, api.MaxWords-1), hlt)
	m, e := cpu.New(w)
	if e != api.OK {
		t.Fatal(e)
	}
	told(t, "all words", m, wantHalt)
	holdReg(t, "all words", m, 7, api.MaxWords-1)
}
