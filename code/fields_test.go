package code_test

import (
	"math"
	"testing"

	"sextant/api"
	"sextant/code"
)

func TestP14_1Numbers(t *testing.T) {
	for n, l := range lines() {
		if l.op != n+1 {
			t.Errorf("%s = %d, want %d", l.name, l.op, n+1)
		}
	}
	if n := len(lines()); n != 47 || code.Zero != 31 {
		t.Errorf("%d operations; Zero is %d", n, code.Zero)
	}
	for n, c := range []int{code.Eq, code.Ne, code.Hs, code.Lo, code.Mi, code.Pl, code.Vs, code.Vc, code.Hi, code.Ls, code.Ge, code.Lt, code.Gt, code.Le} {
		if c != n {
			t.Errorf("the condition %d has the number %d", n, c)
		}
	}
}

func TestP14_1Examples(t *testing.T) {
	for _, c := range []struct {
		i api.Ins
		w uint32
	}{
		{api.Ins{Op: code.Movz, Rd: 1, Imm: 5}, 0xd28000a1},
		{api.Ins{Op: code.Movk, Rd: 0, Imm: 65535, Cond: 3}, 0xf2ffffe0},
		{api.Ins{Op: code.Add, Rd: 1, Rn: 2, Rm: 3}, 0x8b030041},
		{api.Ins{Op: code.Orr, Rd: 4, Rn: 31, Rm: 5}, 0xaa0503e4},
		{api.Ins{Op: code.Lsli, Rd: 0, Rn: 1, Imm: 3}, 0xd37df020},
		{api.Ins{Op: code.Lsri, Rd: 0, Rn: 1, Imm: 3}, 0xd343fc20},
		{api.Ins{Op: code.Lsri, Rn: 1}, 0xd340fc20},
		{api.Ins{Op: code.Cset, Rd: 2, Cond: code.Eq}, 0x9a9f17e2},
		{api.Ins{Op: code.Cmp, Rn: 1, Rm: 2}, 0xeb02003f},
		{api.Ins{Op: code.B, Imm: -1}, 0x17ffffff},
		{api.Ins{Op: code.Bcond, Cond: code.Ne, Imm: 2}, 0x54000041},
		{api.Ins{Op: code.Cbnz, Rd: 30, Imm: -3}, 0xb5ffffbe},
		{api.Ins{Op: code.Ldr, Rd: 1, Rn: 2, Imm: 8}, 0xf9400441},
		{api.Ins{Op: code.Stlr, Rd: 31, Rn: 0}, 0xc89ffc1f},
		{api.Ins{Op: code.Stxr, Rd: 1, Rn: 2, Rm: 3}, 0xc8037c41},
		{api.Ins{Op: code.Ldapr, Rd: 1, Rn: 2}, 0xf8bfc041},
		{api.Ins{Op: code.Casal, Rd: 1, Rn: 2, Rm: 3}, 0xc8e3fc41},
		{api.Ins{Op: code.Swp, Rd: 1, Rn: 2, Rm: 3}, 0xf8238041},
		{api.Ins{Op: code.Ldaddal, Rd: 1, Rn: 2, Rm: 31}, 0xf8ff0041},
		{api.Ins{Op: code.Svc, Imm: 30}, 0xd40003c1},
		{api.Ins{Op: code.Svc, Imm: 1}, 0xd4000021},
	} {
		taken(t, "example", c.i, c.w)
	}
	for _, i := range []api.Ins{
		{Op: code.Addi, Rd: 1, Rn: 31}, {Op: code.Lsli}, {Op: code.Cmp, Rd: 1}, {Op: code.Ldr, Rd: 1, Rn: 2, Imm: 4},
		{Op: code.Stlxr, Rd: 3, Rn: 2, Rm: 3}, {Op: code.Swp, Rd: 31}, {Op: code.Cas, Rm: 31},
	} {
		refused(t, "example", i)
	}
	noWord(t, "example", 0)
	noWord(t, "example", 0xd5033ebf)
}

// Every word of the chapter's table, with its fields all 0 where they may be.
func TestP14_1TableOfWords(t *testing.T) {
	words := []uint32{
		0xd2800000, 0xf2800000, 0x8b000000, 0xcb000000, 0x8a000000, 0xaa000000, 0xca000000, 0xaa200000, 0x9b007c00, 0x9ac02000, 0x9ac02400,
		0x91000000, 0xd1000000, 0xd3400000 | 1<<16 | 0<<10, 0xd340fc00, 0xeb00001f, 0x9a9f07e0 | 1<<12, 0x14000000, 0x54000000, 0xb4000000, 0xb5000000,
		0xf9400000, 0xf9000000, 0xc8dffc00, 0xc89ffc00, 0xc85f7c00, 0xc85ffc00, 0xc8007c00 | 1<<16, 0xc800fc00 | 1<<16, 0xd5033dbf, 0xd5033fbf, 0xd503201f,
		0xd4000001, 0xd4400000, 0xf8bfc000, 0xc8a07c00, 0xc8e07c00, 0xc8a0fc00, 0xc8e0fc00, 0xf8208000, 0xf8a08000, 0xf8608000, 0xf8e08000,
		0xf8200000, 0xf8a00000, 0xf8600000, 0xf8e00000,
	}
	for n, w := range words {
		i := api.Ins{Op: n + 1}
		switch n + 1 {
		case code.Lsli:
			i.Imm = 63
		case code.Stxr, code.Stlxr:
			i.Rm = 1
		}
		taken(t, "table", i, w)
	}
}

// wild is numbers at and beside all ends of ranges, and such as are in range when they are cut to fewer bits.
func wild() (l []int64) {
	for _, n := range []int64{0, 2, 3, 4, 8, 13, 16, 30, 31, 32, 62, 63, 64, 4095, 4096, 32752, 32760, 32768, 65535, 65536, near - 1, near, far - 1, far, 1 << 31, 1 << 32, 1<<32 + 8, 1 << 62} {
		for _, k := range []int64{n - 1, n, n + 1} {
			l = append(l, k, -k)
		}
	}
	return append(l, math.MaxInt64, math.MinInt64, math.MinInt64+8)
}

// with is an instruction with one of its fields changed.
func with(i api.Ins, field int, n int64) api.Ins {
	switch field {
	case 0:
		i.Rd = int(n)
	case 1:
		i.Rn = int(n)
	case 2:
		i.Rm = int(n)
	case 3:
		i.Imm = n
	case 4:
		i.Cond = int(n)
	case 5:
		i.Op = int(n)
	}
	return i
}

// Each field at wild numbers, and with each of them another field at some, of each operation.
func TestP14_1EachFieldsEdges(t *testing.T) {
	d, wilds := dice(1), wild()
	for _, l := range lines() {
		fits, all := 0, 0
		for a := range 5 {
			for _, n := range wilds {
				one := with(d.one(l), a, n)
				tries := []api.Ins{one}
				for b := range a {
					for range 12 {
						tries = append(tries, with(one, b, wilds[d.roll(int64(len(wilds)))]))
					}
				}
				for _, i := range tries {
					all++
					if asModel(t, l.name, l, i) {
						fits++
					}
				}
			}
		}
		if fits == 0 || fits == all {
			t.Errorf("not all is tried: of %s %d of %d fit", l.name, fits, all)
		}
	}
}

// The ends by hand: of each line the ends of Imm and Cond are taken, and one past them is not.
func TestP14_1RangesByHand(t *testing.T) {
	d := dice(2)
	for _, l := range lines() {
		step := int64(1)
		if l.has('E') {
			step = 8
		}
		for range 20 {
			i := d.one(l)
			for _, c := range []struct {
				field       int
				least, most int64
				step        int64
			}{
				{0, 0, l.registers('D', 'd'), 1}, {1, 0, l.registers('N', 'n'), 1}, {2, 0, l.registers('M', 'm'), 1}, {3, l.least, l.most, step}, {4, 0, l.conds, 1},
			} {
				refused(t, l.name, with(i, c.field, c.least-c.step))
				refused(t, l.name, with(i, c.field, c.most+c.step))
				if c.step == 8 {
					refused(t, l.name, with(i, c.field, c.least+1))
					refused(t, l.name, with(i, c.field, c.most-1))
					refused(t, l.name, with(i, c.field, c.most-4))
				}
				if l.op != code.Stxr && l.op != code.Stlxr {
					taken(t, l.name, with(i, c.field, c.least), l.word(with(i, c.field, c.least)))
					taken(t, l.name, with(i, c.field, c.most), l.word(with(i, c.field, c.most)))
				}
			}
		}
	}
}

// A field that an operation does not use is 0.
func TestP14_1UnusedFields(t *testing.T) {
	d := dice(3)
	tried := 0
	for _, l := range lines() {
		used := [5]bool{l.has('D') || l.has('d'), l.has('N') || l.has('n'), l.has('M') || l.has('m'), l.most > 0, l.conds > 0}
		for field, yes := range used {
			for _, n := range []int64{1, -1, 2, 8, 31, 32, 1 << 32, math.MinInt64} {
				if !yes {
					refused(t, l.name, with(d.one(l), field, n))
					tried++
				}
			}
		}
	}
	if tried != 8*120 {
		t.Errorf("not all is tried: %d", tried)
	}
}

func TestP14_1WrongOperations(t *testing.T) {
	for _, op := range []int{0, -1, 48, 49, 63, 64, 255, 256, 1<<32 + 1, -code.Hlt, math.MaxInt, math.MinInt} {
		refused(t, "operation", api.Ins{Op: op})
		refused(t, "operation", api.Ins{Op: op, Rd: 1, Rn: 2, Rm: 3})
		refused(t, "operation", api.Ins{Op: op, Imm: 1})
	}
}

// All registers in all fields of each operation, there and back.
func TestP14_1AllRegisters(t *testing.T) {
	d := dice(4)
	for _, l := range lines() {
		i := d.one(l)
		for i.Rd = 0; int64(i.Rd) <= l.registers('D', 'd'); i.Rd++ {
			for i.Rn = 0; int64(i.Rn) <= l.registers('N', 'n'); i.Rn++ {
				for i.Rm = 0; int64(i.Rm) <= l.registers('M', 'm'); i.Rm++ {
					asModel(t, l.name, l, i)
				}
			}
		}
	}
}

// The status of an exclusive store is in a register of its own; the address' and the value's may be one.
func TestP14_1Status(t *testing.T) {
	for _, op := range []int{code.Stxr, code.Stlxr} {
		l := lines()[op-1]
		tooNear := 0
		for rm := range 31 {
			for rn := range 31 {
				for rd := range 32 {
					i := api.Ins{Op: op, Rd: rd, Rn: rn, Rm: rm}
					if rm == rd || rm == rn {
						refused(t, "status", i)
						noWord(t, "status", l.word(i))
						tooNear++
						continue
					}
					taken(t, "status", i, l.word(i))
				}
			}
		}
		if tooNear != 31*(31+32-1) {
			t.Errorf("not all is tried: %d", tooNear)
		}
		noWord(t, "status", l.word(api.Ins{Op: op, Rd: 1, Rn: 2, Rm: 31}))
	}
	for _, op := range []int{code.Cas, code.Casa, code.Casl, code.Casal} { // these have no status
		taken(t, "no status", api.Ins{Op: op, Rd: 3, Rn: 3, Rm: 3}, lines()[op-1].word(api.Ins{Op: op, Rd: 3, Rn: 3, Rm: 3}))
	}
}

// All numbers of the shorter ranges, and many of the longer ones, with all conditions.
func TestP14_1AllNumbers(t *testing.T) {
	d := dice(5)
	for _, l := range lines() {
		i := d.one(l)
		step := max(1, (l.most-l.least)/70000) // a number that is odd, where it is more than 1
		for i.Imm = l.least; i.Imm <= l.most; i.Imm += step | 1 {
			i.Cond = int(i.Imm&15) % int(l.conds+1)
			asModel(t, l.name, l, i)
		}
		i = d.one(l)
		for i.Cond = 0; int64(i.Cond) <= l.conds; i.Cond++ {
			taken(t, l.name, i, l.word(i))
		}
	}
}

// A shift to the left by n is to the machine one of 64 - n, with 63 - n: where these do not agree, the word is none, or a shift to the right's.
func TestP14_1ShiftsToTheLeft(t *testing.T) {
	lefts, rights := 0, 0
	for r := range uint32(64) {
		for s := range uint32(64) {
			w := 0xd3400000 | r<<16 | s<<10 | 5<<5 | 6
			switch {
			case s == 63:
				taken(t, "right", api.Ins{Op: code.Lsri, Rd: 6, Rn: 5, Imm: int64(r)}, w)
				rights++
			case r == s+1:
				taken(t, "left", api.Ins{Op: code.Lsli, Rd: 6, Rn: 5, Imm: int64(63 - s)}, w)
				lefts++
			default:
				noWord(t, "neither", w)
			}
		}
	}
	if lefts != 63 || rights != 64 {
		t.Errorf("%d to the left, %d to the right", lefts, rights)
	}
}
