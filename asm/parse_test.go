package asm_test

import (
	"strings"
	"testing"

	"sextant/api"
)

const loop = "loop: ldaxr x1,[x2] // try\n add x3, x1, #0x10\nstlxr w4, x3, [x2]\n cbnz "

func TestP15_2Examples(t *testing.T) {
	refused(t, loop+"w4, loop\n", 4, api.ETEXT)
	reads(t, loop+"x4, loop\n", 0xc85ffc41, 0x91004023, 0xc804fc43, 0xb5ffffa4)
	reads(t, "b end\nnop\nend:", 0x14000002, nop)
	reads(t, "b .+2\nnop", 0x14000002, nop)
	refused(t, "b nowhere", 1, api.ENAME)
	refused(t, "a: a: nop", 1, api.ETWICE)
	for _, text := range []string{"nop:", "mov x1, x2", "ldr x1, [x2, #4]"} {
		refused(t, text, 1, api.ETEXT)
	}
	reads(t, "")
}

// Lines end with the byte 10, the last one may; a line may be empty.
func TestP15_2Lines(t *testing.T) {
	for _, text := range []string{"\n", "\n\n\n", " ", "\t", "\r", "\r\n", " \t\r \n\t", "//", "//\n", " // nop", "// nop\n//\n"} {
		reads(t, text)
	}
	for _, text := range []string{"nop", "nop\n", "\nnop", "\n\nnop\n\n", "nop\r\n", "\tnop \r", "nop//", "nop//nop", "nop // nop\n", "// nop\nnop", "nop\n// nop"} {
		reads(t, text, nop)
	}
	reads(t, "nop\nnop", nop, nop)
	reads(t, "nop\n\n//\nnop\n", nop, nop)
	for _, text := range []string{"nop nop", "nop\rnop", "nop\tnop", "nop / / nop", "nop /", "/", "/ // nop"} {
		refused(t, text, 1, api.ETEXT)
	}
}

// A comment holds whatever bytes, but its line's end.
func TestP15_2Comments(t *testing.T) {
	for b := range 256 {
		reads(t, "nop //"+string([]byte{byte(b)}), nop)
		reads(t, "nop //é\xff"+string([]byte{byte(b), byte(b), '\n'})+"nop", nop, nop)
	}
	reads(t, "nop//\xe2\x82\nnop///\xf0\x90\x80\nnop// // a: a:\n//a:", nop, nop, nop)
	reads(t, "ldr x1, [x2]// #8]", 0xf9400041)
	reads(t, "a://b:\nb a//c", 0x14000000)
	refused(t, "ldr x1, [x2 // ]", 1, api.ETEXT)
	refused(t, "a // :\na:", 1, api.ETEXT)
}

// Blanks of three kinds stand between tokens, or none where two can be told apart.
func TestP15_2Blanks(t *testing.T) {
	for _, text := range []string{
		"movk x1,#5,lsl#16", "movk\tx1\r, #5 ,\t\tlsl \r #16\r", "  movk x1 , #5 , lsl #16  ", "movk x1, #5, lsl #16", "movk  x1,#5,lsl\t#16//",
	} {
		reads(t, text, 0xf2a000a1)
	}
	for _, text := range []string{"movkx1,#5", "movk x1,#5,ls l#16", "movk x 1,#5", "movk x1,# 5", "movk x1,#5,lsl# 16", "mov k x1,#5", "movk x1,#0 x5", "movk x1,#1 0"} {
		refused(t, text, 1, api.ETEXT)
	}
	reads(t, "ldr x1,[x2,#8]", 0xf9400441)
	reads(t, "ldr\tx1\t,\t[\tx2\t,\t#8\t]\t", 0xf9400441)
	reads(t, "svc#3", 0xd4000061)
	reads(t, "hlt#0", 0xd4400000)
	reads(t, "a:c:nop", nop)
	reads(t, " a\t:\rc :nop", nop)
	reads(t, "cbz x1,.+9", 0xb4000121)
	reads(t, "cbz x1,a\na:", 0xb4000021)
	reads(t, "dmb\r\tld", 0xd5033dbf)
	for _, text := range []string{"b.+2", "b.eq.+2", "b .+ 2", "b . +2", "b. eq .+2", "b .eq .+2", "b.eq+2", "cbz x1.+2", "dmbld", "b + 2", "a : : nop", "st xr w3, x1, [x2]"} {
		refused(t, text, 1, api.ETEXT)
	}
	for b := range 256 {
		text := "dmb" + string([]byte{byte(b)}) + "sy"
		switch b {
		case ' ', '\t', '\r':
			reads(t, text, 0xd5033fbf)
		default:
			refused(t, text, 1, api.ETEXT)
		}
	}
	for _, blank := range []string{"\u00a0", "\u0085", "\u2003", "\ufeff", "\v", "\f", "\x00", "\u2028"} {
		refused(t, "nop"+blank, 1, api.ETEXT)
		refused(t, blank+"nop", 1, api.ETEXT)
		refused(t, "a:"+blank, 1, api.ETEXT)
	}
}

// Labels, several on a line or on lines of their own, at the beginning and at the end.
func TestP15_2Labels(t *testing.T) {
	for _, text := range []string{
		"a: b a", "a:\nb a", "\n\na:\n\n//\nb a", "a: c: d: b a", "a: c: d: b d", "a:\nc:\nd:\nb c", "c: a:\nd: b a", "a: b a\nd:", "a: b a\nd: c:\n\ne:", "a:b a",
	} {
		reads(t, text, 0x14000000)
	}
	for _, text := range []string{"b a\na:", "b a\na:\n", "b a\nc: a: d:", "c: b a\nd:\na:", "c: b a\n\n// a:\n a:", "b a\na: // a:"} {
		reads(t, text, 0x14000001)
	}
	reads(t, "b z\na: nop\nz: cbz x1, a\nb.eq z\ncbnz x2, end\nend:", 0x14000002, nop, 0xb4ffffe1, 0x54ffffe0, 0xb5000022)
	for _, name := range []string{
		"x1", "w1", "xzr", "ld", "sy", "eq", "lsl.", "b.", "b.al", "b.xx", "B", "NOP", "Nop", "nop1", "nop_", "_", "__", "_1", "a.b.c", "a..", "Z9", "L0", "z", "A", "mov", "x31", "rd", "Rd", "Imm", "Target", "stadd", "casb",
		strings.Repeat("q", 30000), "a9876543210_.ZYXWVUTSRQPONMLKJIHGFEDCBA",
	} {
		reads(t, name+": b "+name, 0x14000000)
		reads(t, "b.le "+name+"\n"+name+":", 0x5400002d)
		reads(t, "cbnz x3,"+name+"\nnop\n"+name+":nop", 0xb5000043, nop, nop)
		refused(t, "b "+name, 1, api.ENAME)
	}
	// Letters are told apart by their case, and names by all their runes.
	refused(t, "a: b A", 1, api.ENAME)
	refused(t, "ab: a.b: a_b: b a", 1, api.ENAME)
	reads(t, "a: nop\nA: nop\nb a\nb A", nop, nop, 0x17fffffe, 0x17fffffe)
	for _, name := range []string{"é", "aé", "α", "1", "1a", ".a", "-a", "a-b", "a$", "#1", ".+1", "", "a b", "[a]", "a,", "à"} {
		refused(t, name+":", 1, api.ETEXT)
		refused(t, name+": nop", 1, api.ETEXT)
		refused(t, "b "+name+":", 1, api.ETEXT)
	}
}

// No instruction's name is a label, and no label is named so.
func TestP15_2MnemonicsAreNoLabels(t *testing.T) {
	names := map[string]struct{}{}
	for _, r := range table {
		names[r.nameOf()] = struct{}{}
	}
	delete(names, "b.?")
	for _, c := range conds {
		names["b."+c] = struct{}{}
	}
	if len(names) != 41+14 {
		t.Fatalf("not all is tried: %d names", len(names))
	}
	for name := range names {
		refused(t, name+":", 1, api.ETEXT)
		refused(t, name+": nop", 1, api.ETEXT)
		refused(t, "nop\na: "+name+": nop", 2, api.ETEXT)
		refused(t, name+" : nop", 1, api.ETEXT)
		refused(t, "b "+name, 1, api.ENAME)
		reads(t, name+"_: b "+name+"_", 0x14000000)
	}
}

// Numbers: many digits, zeros ahead, below 0, hexadecimal.
func TestP15_2Numbers(t *testing.T) {
	zeros := strings.Repeat("0", 5000)
	for _, n := range []string{"#10", "#0xa", "#010", "#0x0a", "#0x000000000000000000000000000a", "#" + zeros + "10", "#0x" + zeros + "a"} {
		reads(t, "svc "+n, 0xd4000141)
	}
	for _, n := range []string{"#0", "#-0", "#00", "#0x0", "#-0x0", "#-00", "#" + zeros, "#-" + zeros} {
		reads(t, "svc "+n, 0xd4000001)
		reads(t, "hlt "+n, 0xd4400000)
		reads(t, "movz x1, #5, lsl "+n, 0xd28000a1)
		reads(t, "movk x1, #5, lsl "+n, 0xf28000a1)
		reads(t, "ldr x1, [x2, "+n+"]", 0xf9400041)
		reads(t, "str x1, [x2, "+n+"]", 0xf9000041)
	}
	reads(t, "movz x1, #0xffff", 0xd29fffe1)
	reads(t, "movz x1, #0xabcd", 0xd29579a1)
	reads(t, "movz x1, #0x0ef9", 0xd281df21)
	reads(t, "movz x1, #65535, lsl #0x30", 0xd2ffffe1)
	reads(t, "movz x1, #65535, lsl #016", 0xd2bfffe1)
	reads(t, "movz x1, #65535, lsl #0x0010", 0xd2bfffe1)
	for _, n := range []string{
		"#31", "#-1", "#-10", "#0x1f", "#-0xa", "#18446744073709551616", "#18446744073709551626", "#0x10000000000000000", "#0x1000000000000000a", "#4294967296", "#4294967306",
		"#9223372036854775808", "#-18446744073709551606", "#-9223372036854775808", "#1" + zeros, "#0x1" + zeros, "#-1" + zeros,
	} {
		refused(t, "svc "+n, 1, api.ETEXT)
		refused(t, "hlt "+n, 1, api.ETEXT)
		refused(t, "add x1, x2, "+n+"000", 1, api.ETEXT)
		refused(t, "movz x1, "+n+"0000", 1, api.ETEXT)
		refused(t, "ldr x1, [x2, "+n+"0000]", 1, api.ETEXT)
		refused(t, "lsr x1, x2, "+n+"00", 1, api.ETEXT)
	}
	for _, n := range []string{
		"#", "#-", "#0x", "#-0x", "#0xA", "#0X1", "#0x1A", "#1a", "#a", "##1", "#--1", "#+1", "#1-", "#-0x-1", "#0x0x1", "#1.", "#1_", "#1_0", "#0x_1", "#0b1", "# 1", "#- 1", "#0x 1",
		"-1", "1", "0x1", "w1", "a", "+1", ".+1", "#1 #1", "#1,", "[#1]", "#\u0661", "#1é", "", ",", ":",
	} {
		refused(t, "svc "+n, 1, api.ETEXT)
		refused(t, "hlt "+n, 1, api.ETEXT)
		refused(t, "add x1, x2, "+n, 1, api.ETEXT)
		refused(t, "movz x1, "+n, 1, api.ETEXT)
		refused(t, "movz x1, #5, lsl "+n, 1, api.ETEXT)
		refused(t, "ldr x1, [x2, "+n+"]", 1, api.ETEXT)
	}
}

// The parts of sixteen bits: no others than these four.
func TestP15_2Parts(t *testing.T) {
	for n := range uint32(200) {
		for op, w := range map[string]uint32{"movz": 0xd28000a1, "movk": 0xf28000a1} {
			text := op + " x1, #5, lsl #" + decimal(int64(n))
			if n%16 == 0 && n <= 48 {
				reads(t, text, w+n/16<<21)
			} else {
				refused(t, text, 1, api.ETEXT)
			}
		}
	}
	for _, part := range []string{"lsl #-16", "lsl #-48", "lsl #17179869184", "lsl #68719476752", "lsl #295147905179352825856", "lsl #295147905179352825872", "lsl 16", "lsl", "#16", "lsr #16", "lsl x1", "LSL #16", "lsl #16, lsl #16", "lsl #16 lsl #16", ""} {
		refused(t, "movz x1, #5, "+part, 1, api.ETEXT)
		refused(t, "movk x1, #5, "+part, 1, api.ETEXT)
	}
	for _, text := range []string{"movz x1, #5 lsl #16", "movz x1, lsl #16", "add x1, x2, #5, lsl #0", "add x1, x2, x3, lsl #0", "lsl x1, x2, lsl #3", "svc #3, lsl #0"} {
		refused(t, text, 1, api.ETEXT)
	}
}

// Distances: to both ends of the branch's range, and not past them.
func TestP15_2Distances(t *testing.T) {
	for _, x := range []struct {
		op, end     string
		first, last uint32
		reach       int64
	}{
		{"b ", "", 0x16000000, 0x15ffffff, 1 << 25},
		{"b.eq ", "", 0x54800000, 0x547fffe0, 1 << 18},
		{"b.le ", "", 0x5480000d, 0x547fffed, 1 << 18},
		{"cbz x3, ", "", 0xb4800003, 0xb47fffe3, 1 << 18},
		{"cbnz xzr, ", "", 0xb580001f, 0xb57fffff, 1 << 18},
	} {
		reads(t, x.op+".-"+decimal(x.reach), x.first)
		reads(t, x.op+".+"+decimal(x.reach-1), x.last)
		reads(t, x.op+".-0000000000000000000000"+decimal(x.reach), x.first)
		reads(t, x.op+".+0000000000000000000000"+decimal(x.reach-1), x.last)
		for _, d := range []string{
			".-" + decimal(x.reach+1), ".+" + decimal(x.reach), ".+" + decimal(2*x.reach), ".+" + decimal(1<<32), ".-" + decimal(1<<32), ".+4611686018427387905", ".+9223372036854775808", ".+18446744073709551616", ".+18446744073709551617", ".-18446744073709551615", ".+1" + strings.Repeat("0", 3000), ".-1" + strings.Repeat("0", 3000),
			".", ".+", ".-", ".5", ".++1", ".+-1", ".+0x1", ".+1a", ".+a", "+1", "-1", "5", "#5", "#-5", ".#5", ". +1", ".+ 1", ".+1 .+1", ".+1,", "[.+1]", "", ":", ",", "[", ".+1:",
		} {
			refused(t, x.op+d, 1, api.ETEXT)
		}
	}
	for _, d := range []string{".+0", ".-0", ".+000", ".-000"} {
		reads(t, "b "+d, 0x14000000)
		reads(t, "cbz x1, "+d, 0xb4000001)
	}
	// A distance is counted in words, whatever lines and labels stand between.
	reads(t, "b .+2 // two on\n\na:\n c: nop\n\nb .-1", 0x14000002, nop, 0x17ffffff)
}

// A text of MaxText bytes is read, one of a byte more is not, whatever else is wrong with it.
func TestP15_2TextLimit(t *testing.T) {
	reads(t, strings.Repeat(" ", api.MaxText))
	reads(t, strings.Repeat("\n", api.MaxText))
	reads(t, "b a\na: //"+strings.Repeat("\xff", api.MaxText-9), 0x14000001)
	for _, text := range []string{" ", "\n", "/", "nop\n", "é"} {
		long := strings.Repeat(text, api.MaxText+1)[:api.MaxText+1]
		refused(t, long, 0, api.ELIMIT)
		refused(t, long+long, 0, api.ELIMIT)
	}
	refused(t, "bad\n"+strings.Repeat(" ", api.MaxText-3), 0, api.ELIMIT)
	refused(t, "bad\n"+strings.Repeat(" ", api.MaxText-4), 1, api.ETEXT)
	refused(t, "b a\n"+strings.Repeat("\n", api.MaxText-5)+"!", api.MaxText-3, api.ETEXT)
	refused(t, "b a\n"+strings.Repeat("\n", api.MaxText-4), 1, api.ENAME)
	full := strings.Repeat("nop\n", api.MaxWords)
	reads(t, full, nops(api.MaxWords)...)
	reads(t, full[:len(full)-1], nops(api.MaxWords)...)
	refused(t, full+"\n", 0, api.ELIMIT)
	refused(t, full+"nop", 0, api.ELIMIT)
	// A label's distance from one end to the other.
	far := "b z\n" + strings.Repeat("nop\n", api.MaxWords-2) + "z:"
	reads(t, far, append([]uint32{0x14000000 + api.MaxWords - 1}, nops(api.MaxWords-2)...)...)
	far = "a:\n" + strings.Repeat("nop\n", api.MaxWords-2) + "b a"
	reads(t, far, append(nops(api.MaxWords-2), 0x18000000-api.MaxWords+2)...)
}

func nops(size int) []uint32 {
	out := make([]uint32, size)
	for n := range out {
		out[n] = nop
	}
	return out
}
