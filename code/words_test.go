package code_test

import (
	"testing"

	"sextant/api"
	"sextant/code"
)

// A turned bit that is no field's makes the word no instruction's, or another row's; two and three turned ones are asked of the model.
func TestP14_3TurnedBits(t *testing.T) {
	all, d := newTable(), dice(6)
	others, none := 0, 0
	for _, l := range all {
		for range 40 {
			w := l.word(d.one(l.line))
			for a := range 32 {
				one := w ^ 1<<a
				if i, ok := wordAsModel(t, l.name, all, one); l.mask>>a&1 == 1 {
					if ok && i.Op == l.op {
						t.Fatalf("P14.3: %s: %08x with the bit %d turned is still %+v", l.name, w, a, i)
					}
					if ok {
						others++
					} else {
						none++
					}
				}
				for b := range a {
					wordAsModel(t, l.name, all, one^1<<b)
				}
				wordAsModel(t, l.name, all, one^1<<d.roll(32)^1<<d.roll(32))
			}
		}
	}
	if others < 1000 || none < 10000 {
		t.Errorf("not all is tried: %d are another's, %d none's", others, none)
	}
}

// All heads of words (the bits that tell most rows apart), each with the tails of all rows.
func TestP14_3AllHeads(t *testing.T) {
	all, d := newTable(), dice(7)
	seen, none := map[int]int{}, 0
	for head := range uint32(1 << 12) {
		for _, l := range all {
			for range 6 {
				tail := (l.fixed | uint32(d.roll(1<<32))&^l.mask) & (1<<20 - 1)
				if i, ok := wordAsModel(t, l.name, all, head<<20|tail); ok {
					seen[i.Op]++
				} else {
					none++
				}
			}
		}
	}
	for _, l := range all {
		if seen[l.op] == 0 {
			t.Errorf("not all is tried: no word is %s", l.name)
		}
	}
	if none < 100000 {
		t.Errorf("not all is tried: only %d are no instruction's", none)
	}
}

// Words that are nearly an instruction's: their neighbours in A64, which have other words.
func TestP14_1NearlyWords(t *testing.T) {
	for what, w := range map[string]uint32{
		"movn": 0x92800000, "movz of 32 bits": 0x52800000, "adds": 0xab030041, "add of 32 bits": 0x0b030041, "add, shifted": 0x8b030441,
		"subs that is kept": 0xeb020020, "ands": 0xea030041, "bic": 0x8a230041, "eon": 0xca230041, "madd": 0x9b030441, "msub": 0x9b03fc41,
		"asr": 0x9ac32841, "ror": 0x9ac32c41, "addi, shifted": 0x91400441, "addi to sp": 0x9100045f, "addi of sp": 0x910007e1, "adds of a number": 0xb1000441,
		"sbfm": 0x9343fc20, "ubfm of 32 bits": 0x5303fc20, "ubfx": 0xd3431020, "cinc": 0x9a821441, "cset al": 0x9a9ff7e2, "cset nv": 0x9a9fe7e2, "csetm": 0xda9f13e2,
		"bl": 0x94000001, "bc.cond": 0x54000051, "b.al": 0x5400004e, "b.nv": 0x5400004f, "cbz of 32 bits": 0x34000041, "tbz": 0xb6000041, "br": 0xd61f0000, "ret": 0xd65f03c0,
		"ldr of 32 bits": 0xb9400441, "ldur": 0xf8408041, "ldr of sp": 0xf94007e1, "ldrsw": 0xb9800441, "prfm": 0xf9800441,
		"ldlar": 0xc8df7c41, "stllr": 0xc89f7c41, "ldar of sp": 0xc8dfffe1, "ldxp": 0xc87f0c41, "ldxr of 32 bits": 0x885f7c41, "ldxr with a status": 0xc8437c41, "stxp": 0xc8230c41, "stxr, another tail": 0xc8037841,
		"dmb st": 0xd5033ebf, "dmb ish": 0xd5033bbf, "dmb ishld": 0xd50339bf, "dsb sy": 0xd5033f9f, "isb": 0xd5033fdf, "yield": 0xd503203f,
		"svc #31": 0xd40003e1, "svc #32": 0xd4000401, "hvc": 0xd4000002, "brk": 0xd4200000, "hlt #1": 0xd4400020,
		"ldaprb": 0x38bfc041, "ldapr of 32 bits": 0xb8bfc041, "ldapr of sp": 0xf8bfc3e1, "cas of 32 bits": 0x88a37c41, "casp": 0x48237c41, "cas of sp": 0xc8a37fe1, "cas to xzr": 0xc8bf7c41,
		"swp of 32 bits": 0xb8238041, "swp to xzr": 0xf823805f, "swp of sp": 0xf82383e1, "ldclr": 0xf8231041, "ldeor": 0xf8232041, "ldset": 0xf8233041, "stadd": 0xf823005f, "ldadd of sp": 0xf82303e1,
		"nothing": 0, "all": 0xffffffff,
	} {
		noWord(t, what, w)
	}
}

// No two instructions have one word.
func TestP14_3NoTwoHaveOneWord(t *testing.T) {
	d := dice(8)
	by := map[uint32]api.Ins{}
	for _, l := range lines() {
		for range 3000 {
			i := d.one(l)
			w, e := code.Encode(i)
			if other, ok := by[w]; e != api.OK || ok && other != i {
				t.Fatalf("P14.3: %+v and %+v have the word %08x, %v", i, other, w, e)
			}
			by[w] = i
		}
	}
	if len(by) < 80000 {
		t.Errorf("not all is tried: %d words", len(by))
	}
	for w, i := range by {
		if back, e := code.Decode(w); back != i || e != api.OK {
			t.Fatalf("P14.3: Decode(%08x) = %+v, %v; want %+v", w, back, e, i)
		}
	}
}

// How many words each operation has, of all that have its fixed bits.
func TestP14_3HowMany(t *testing.T) {
	const status = 31 * 30 * 31 // one of 31, an address of the 30 others, a value of the 31 others
	sizes := map[int]int{
		code.Lsli: 32 * 32 * 63, code.Lsri: 32 * 32 * 64, code.Cmp: 32 * 32, code.Cset: 32 * 14,
		code.Ldar: 31 * 32, code.Stlr: 31 * 32, code.Ldxr: 31 * 32, code.Ldaxr: 31 * 32, code.Ldapr: 31 * 32, code.Stxr: status, code.Stlxr: status,
		code.DmbLd: 1, code.DmbSy: 1, code.Nop: 1, code.Hlt: 1, code.Svc: 31,
	}
	for op := code.Add; op <= code.Lsr; op++ {
		sizes[op] = 32 * 32 * 32
	}
	for op := code.Cas; op <= code.Ldaddal; op++ {
		sizes[op] = 31 * 31 * 32
	}
	all := newTable()
	for op, size := range sizes {
		l, n := all[op-1], 0
		for free, w := ^l.mask, uint32(0); ; w = (w - free) & free {
			if i, e := code.Decode(l.fixed | w); e == api.OK && i.Op == op {
				n++
			}
			if w == free {
				break
			}
		}
		if n != size {
			t.Errorf("P14.3: %d words are of %s, want %d", n, l.name, size)
		}
	}
}
