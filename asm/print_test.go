package asm_test

import (
	"fmt"
	"slices"
	"strings"
	"testing"

	"sextant/api"
	"sextant/asm"
	"sextant/code"
)

const nop = 0xd503201f

// Every row of the chapter's table as it is printed there, and read.
func TestP15_1Table(t *testing.T) {
	for _, x := range []struct {
		text string
		word uint32
	}{
		{"movz x1, #5", 0xd28000a1}, {"movk x1, #5", 0xf28000a1},
		{"movz x1, #5, lsl #16", 0xd2a000a1}, {"movz x1, #5, lsl #32", 0xd2c000a1}, {"movz x1, #5, lsl #48", 0xd2e000a1},
		{"movk x1, #5, lsl #16", 0xf2a000a1}, {"movk x1, #5, lsl #32", 0xf2c000a1}, {"movk x0, #65535, lsl #48", 0xf2ffffe0},
		{"movz x1, #0", 0xd2800001}, {"movz x1, #0, lsl #16", 0xd2a00001}, {"movz xzr, #65535", 0xd29fffff},
		{"add x1, x2, x3", 0x8b030041}, {"sub x1, x2, x3", 0xcb030041}, {"and x1, x2, x3", 0x8a030041},
		{"orr x1, x2, x3", 0xaa030041}, {"eor x1, x2, x3", 0xca030041}, {"orn x1, x2, x3", 0xaa230041},
		{"mul x1, x2, x3", 0x9b037c41}, {"lsl x1, x2, x3", 0x9ac32041}, {"lsr x1, x2, x3", 0x9ac32441},
		{"orr x4, xzr, x5", 0xaa0503e4}, {"add xzr, x30, x0", 0x8b0003df},
		{"add x1, x2, #5", 0x91001441}, {"sub x1, x2, #5", 0xd1001441}, {"add x30, x0, #0", 0x9100001e}, {"sub x0, x30, #4095", 0xd13fffc0},
		{"lsl x0, x1, #3", 0xd37df020}, {"lsr x0, x1, #3", 0xd343fc20}, {"lsl x0, x1, #1", 0xd37ff820}, {"lsl x0, x1, #63", 0xd3410020},
		{"lsr xzr, x1, #0", 0xd340fc3f}, {"lsr x0, xzr, #63", 0xd37fffe0},
		{"cmp x1, x2", 0xeb02003f}, {"cmp xzr, x30", 0xeb1e03ff}, {"cset x2, eq", 0x9a9f17e2}, {"cset xzr, le", 0x9a9fc7ff},
		{"b .+2", 0x14000002}, {"b .-1", 0x17ffffff}, {"b.eq .+2", 0x54000040}, {"b.le .-3", 0x54ffffad},
		{"cbz x1, .+2", 0xb4000041}, {"cbnz x30, .-3", 0xb5ffffbe}, {"cbnz xzr, .+2", 0xb500005f},
		{"ldr x1, [x2]", 0xf9400041}, {"str x1, [x2]", 0xf9000041}, {"ldr x1, [x2, #8]", 0xf9400441}, {"str xzr, [x30, #32760]", 0xf93fffdf},
		{"ldar x1, [x2]", 0xc8dffc41}, {"stlr xzr, [x0]", 0xc89ffc1f}, {"ldxr x1, [x2]", 0xc85f7c41}, {"ldaxr x1, [x2]", 0xc85ffc41},
		{"stxr w3, x1, [x2]", 0xc8037c41}, {"stlxr w3, x1, [x2]", 0xc803fc41}, {"stxr w30, xzr, [x0]", 0xc81e7c1f}, {"stlxr w0, x30, [x1]", 0xc800fc3e},
		{"dmb ld", 0xd5033dbf}, {"dmb sy", 0xd5033fbf}, {"nop", nop}, {"svc #3", 0xd4000061}, {"svc #0", 0xd4000001}, {"svc #30", 0xd40003c1}, {"hlt #0", 0xd4400000},
		{"ldapr x1, [x2]", 0xf8bfc041},
		{"cas x3, x1, [x2]", 0xc8a37c41}, {"casa x3, x1, [x2]", 0xc8e37c41}, {"casl x3, x1, [x2]", 0xc8a3fc41}, {"casal x3, x1, [x2]", 0xc8e3fc41},
		{"swp x3, x1, [x2]", 0xf8238041}, {"swpa x3, x1, [x2]", 0xf8a38041}, {"swpl x3, x1, [x2]", 0xf8638041}, {"swpal xzr, x1, [x2]", 0xf8ff8041},
		{"ldadd x3, x1, [x2]", 0xf8230041}, {"ldadda x3, x1, [x2]", 0xf8a30041}, {"ldaddl x3, x1, [x2]", 0xf8630041}, {"ldaddal xzr, x1, [x2]", 0xf8ff0041},
	} {
		both(t, x.text+"\n", x.word)
	}
}

// Each condition, at both instructions that have one.
func TestP15_1Conditions(t *testing.T) {
	for n, c := range conds {
		both(t, "b."+c+" .+9\n", 0x54000120+uint32(n))
		both(t, "cset x7, "+c+"\n", 0x9a9f07e7|uint32(n^1)<<12)
	}
}

// Each register, wherever one may stand.
func TestP15_1Registers(t *testing.T) {
	for n := range uint32(31) {
		both(t, fmt.Sprintf("add x%d, x0, x0\n", n), 0x8b000000|n)
		both(t, fmt.Sprintf("add x0, x%d, x0\n", n), 0x8b000000|n<<5)
		both(t, fmt.Sprintf("add x0, x0, x%d\n", n), 0x8b000000|n<<16)
		both(t, fmt.Sprintf("ldar x1, [x%d]\n", n), 0xc8dffc01|n<<5)
		if n > 1 {
			both(t, fmt.Sprintf("stxr w%d, x0, [x1]\n", n), 0xc8007c20|n<<16)
		}
	}
	both(t, "add xzr, xzr, xzr\n", 0x8b1f03ff)
	refused(t, "add x31, x0, x0", 1, api.ETEXT)
}

func TestP15_1Examples(t *testing.T) {
	both(t, "L0:\nmovz x1, #5\nb L0\n", 0xd28000a1, 0x17ffffff)
	both(t, "b.ne .+2\n", 0x54000041)
	unprinted(t, []uint32{0}, 0, api.EWORD)
	prints(t, "")
	reads(t, "")
}

// A branch's target has a label from 0 to n; one before and one past them it is told by the distance.
func TestP15_1Targets(t *testing.T) {
	both(t, "L0:\nb L0\n", 0x14000000)
	both(t, "b L0\nL0:\n", 0x14000001)
	both(t, "b .-1\n", 0x17ffffff)
	both(t, "b .+2\n", 0x14000002)
	both(t, "nop\nL0:\ncbz x9, L0\nnop\n", nop, 0xb4000009, nop)
	both(t, "nop\ncbz x9, L0\nnop\nL0:\n", nop, 0xb4000049, nop)
	both(t, "L0:\nnop\nb.hs L0\nnop\n", nop, 0x54ffffe2, nop)
	both(t, "nop\nb.hs .-2\nnop\n", nop, 0x54ffffc2, nop)
	both(t, "nop\nb.hs .+3\nnop\n", nop, 0x54000062, nop)
	both(t, "b .+33554431\n", 0x15ffffff)
	both(t, "b .-33554432\n", 0x16000000)
	both(t, "b.gt .+262143\n", 0x547fffec)
	both(t, "b.gt .-262144\n", 0x5480000c)
	both(t, "cbz xzr, .+262143\n", 0xb47fffff)
	both(t, "cbnz x0, .-262144\n", 0xb5800000)
	for size := range 7 {
		for at := range size {
			for to := -2; to <= size+2; to++ {
				l := make([]api.Ins, size)
				for n := range l {
					l[n].Op = code.Nop
				}
				for _, op := range []int{code.B, code.Bcond, code.Cbz, code.Cbnz} {
					l[at] = api.Ins{Op: op, Imm: int64(to - at)}
					both(t, listing(l), words(t, l...)...)
				}
			}
		}
	}
}

// Labels are numbered by rising targets, one for each target, whatever branches go there, and wherever these stand.
func TestP15_1Labels(t *testing.T) {
	both(t, "b L2\nL0:\nb L1\nL1:\nb L0\nL2:\nb L2\nb L3\nb L0\nL3:\n",
		0x14000003, 0x14000001, 0x17ffffff, 0x14000000, 0x14000002, 0x17fffffc)
	both(t, "L0:\nb L0\nb L0\nb.eq L0\ncbz x0, L0\ncbnz x0, L0\n", 0x14000000, 0x17ffffff, 0x54ffffc0, 0xb4ffffa0, 0xb5ffff80)
	// More than ten labels, so that an order of their names is another one.
	for _, size := range []int{11, 25, 120} {
		l := make([]api.Ins, size)
		for n := range l {
			l[n] = api.Ins{Op: code.B, Imm: int64((n*7+3)%size - n)}
		}
		text := listing(l)
		both(t, text, words(t, l...)...)
		for n := range size {
			if !strings.Contains(text, fmt.Sprintf("L%d:\nb L", n)) {
				t.Errorf("P15.1: no label L%d of %d", n, size)
			}
		}
	}
}

// What is no branch has no target, whatever its number.
func TestP15_1NoBranches(t *testing.T) {
	both(t, "movz x1, #1\nadd x1, x2, #0\nlsl x1, x2, #1\nldr x1, [x2, #8]\nsvc #1\nhlt #0\n",
		0xd2800021, 0x91000041, 0xd37ff841, 0xf9400441, 0xd4000021, 0xd4400000)
}

// What code.List refuses is refused as it does.
func TestP15_1NoWords(t *testing.T) {
	for _, w := range []uint32{0, 0xffffffff, 0xd5033ebf, 0xd4400020, 0xd3400020, 0x9a9fe7e2, 0xc8007c00, 0xf823805f, 0xd40003e1} {
		unprinted(t, []uint32{w}, 0, api.EWORD)
		unprinted(t, []uint32{nop, w}, 1, api.EWORD)
		unprinted(t, []uint32{nop, nop, w, nop, 0}, 2, api.EWORD)
	}
	long := slices.Repeat([]uint32{nop}, api.MaxWords)
	prints(t, strings.Repeat("nop\n", api.MaxWords), long...)
	unprinted(t, append(long, nop), api.MaxWords, api.ELIMIT)
	unprinted(t, append(long, 0), api.MaxWords, api.ELIMIT)
	long[17] = 0
	unprinted(t, append(long, nop), api.MaxWords, api.ELIMIT)
	unprinted(t, long, 17, api.EWORD)
}

// A text of MaxText bytes is told, one of a byte more is refused: by a long line, by a label, by its number.
func TestP15_1TextLimit(t *testing.T) {
	full := func(size int) []uint32 { return slices.Repeat([]uint32{nop}, size) }
	longer := append(full(api.MaxWords-1), 0xd4000001) // svc #0 has three bytes more
	unprinted(t, longer, 0, api.ELIMIT)
	text, _, e := asm.Print(longer[1:])
	if len(text) != api.MaxText-1 || e != api.OK {
		t.Errorf("P15.1: %d bytes, %v", len(text), e)
	}
	exact := append(full(api.MaxWords-2), 0xd4000001+10<<5) // svc #10: eight bytes
	prints(t, strings.Repeat("nop\n", api.MaxWords-2)+"svc #10\n", exact...)
	unprinted(t, append(full(api.MaxWords-2), 0xd5033dbf, nop), 0, api.ELIMIT)
	labelled := append(full(api.MaxWords-3), 0x14000001) // b L0, and L0: behind it
	prints(t, strings.Repeat("nop\n", api.MaxWords-3)+"b L0\nL0:\n", labelled...)
	unprinted(t, append([]uint32{nop}, labelled...), 0, api.ELIMIT)
	unprinted(t, append(labelled, 0xd4000001), 0, api.ELIMIT)
	unprinted(t, slices.Repeat([]uint32{0xf8ff8041}, api.MaxWords), 0, api.ELIMIT)
}

// All operations together, as the model tells them.
func TestP15_1Model(t *testing.T) {
	d := dice(1)
	seen := map[int]bool{}
	for size := range 400 {
		l := d.some(size % 60)
		for _, i := range l {
			seen[i.Op] = true
		}
		prints(t, listing(l), words(t, l...)...)
	}
	if len(seen) != code.Ldaddal {
		t.Errorf("not all is tried: %d operations", len(seen))
	}
}
