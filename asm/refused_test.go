package asm_test

import (
	"fmt"
	"strconv"
	"strings"
	"testing"

	"sextant/api"
)

func decimal(n int64) string { return strconv.FormatInt(n, 10) }

// Lines of no form, and instructions that do not fit: alone, and between others.
func TestP15_2NoForm(t *testing.T) {
	for _, text := range strings.Split(noForms, "\n") {
		refused(t, text, 1, api.ETEXT)
		refused(t, "c: "+text, 1, api.ETEXT)
		refused(t, "nop\n// so\nc: "+text+"\nnop\nbad\na: a: b b", 3, api.ETEXT)
		refused(t, text+" // nop", 1, api.ETEXT)
	}
}

// noForms has one line for each thing that may be wrong.
const noForms = `bad
mov x1, x2
NOP
Nop
nop nop
nop x1
nop #0
nop,
nop :
no
nopp
a b
a:b
a nop
a, nop
a:: nop
a: : nop
: nop
:
,
[
]
#5
.+5
.
-
x1
w1
é
nop é
nop ;
nop @
nop !
$
/
/ nop
'
"
(nop)
1
1: nop
movz
movz x1
movz x1,
movz x1 #5
movz x1, 5
movz x1, x2
movz #5, x1
movz w1, #5
movz x31, #5
movz x1, #65536
movz x1, #-1
movz x1, #5,
movz x1, #5, #16
movk x1, #65536
movk x1, #5, lsl
movk w1, #5
movk x1, [#5]
add x1
add x1, x2
add x1, x2,
add x1 x2 x3
add x1, x2 x3
add x1, x2, x3,
add x1, x2, x3, x4
add x1, x2, w3
add x1, w2, x3
add w1, x2, x3
add w1, w2, w3
add x1, x2, wzr
add x1, x2, sp
add x1, x2, [x3]
add x1, x2, 5
add x1, x2, #4096
add x1, x2, #-1
add xzr, x2, #1
add x1, xzr, #1
add x1, #1
add x1, #1, x2
add x1, x2, eq
sub x1, x2, #4096
sub xzr, x2, #1
sub x1, xzr, #0
sub w1, x2, #1
and x1, x2, #1
orr x1, x2, #1
eor x1, x2, #1
orn x1, x2, #1
mul x1, x2, #1
orr x1, x2
mul x1, x2, x3, x4
lsl x1, x2, #0
lsl x1, x2, #64
lsl x1, x2, #-1
lsl #3
lsl w1, x2, #3
lsr x1, x2, #64
lsr x1, x2, #-1
lsr x1, x2
cmp x1
cmp x1, #5
cmp x1, x2, x3
cmp w1, x2
cmp x1, w2
cset x1
cset x1, x2
cset x1, al
cset x1, nv
cset x1, EQ
cset x1, cs
cset x1, #0
cset w1, eq
cset eq
cset x1, eq, ne
b
b x1, x2
b #5
b [x1]
b a b
b ,a
b a,
b.xx a
b.al a
b.EQ a
b.eqq a
b. a
b.eq
b.eq x1, c
B c
cbz c
cbz x1
cbz x1, #5
cbz x1 c
cbz w1, c
cbz x31, c
cbz x1, x2, c
cbz [x1], c
cbnz c
cbnz w1, c
cbnz x1, c, c
ldr x1
ldr x1, x2
ldr x1, [x2
ldr x1, x2]
ldr x1, ]x2[
ldr x1 [x2]
ldr x1, [x2]]
ldr x1, [[x2]]
ldr x1, [x2],
ldr x1, [x2], #8
ldr x1, [x2] #8
ldr x1, [x2 #8]
ldr x1, [x2,]
ldr x1, [x2, 8]
ldr x1, [x2, x3]
ldr x1, [x2, #4]
ldr x1, [x2, #1]
ldr x1, [x2, #32761]
ldr x1, [x2, #32768]
ldr x1, [x2, #-8]
ldr x1, [xzr]
ldr x1, [xzr, #8]
ldr x1, [w2]
ldr x1, [sp]
ldr x1, []
ldr x1, [#8]
ldr x31, [x2]
ldr x01, [x2]
ldr x1, [x02]
ldr x1, [x00]
ldr X1, [x2]
ldr x1, [x-2]
ldr x1, [x+2]
ldr x1, [x]
ldr x1, [xz]
ldr x1, [x1_]
ldr w1, [x2]
ldr wzr, [x2]
str w1, [x2]
str x1, [xzr]
str x1, [x2, #4]
str x1, [x2, #32768]
str [x2], x1
ldar x1, [x2, #0]
ldar x1, [xzr]
ldar w1, [x2]
stlr x1, [x2, #0]
stlr x1, x2
ldxr x1, [x2, #0]
ldxr x1
ldaxr x1, [x2, #8]
ldaxr w1, [x2]
ldapr x1, [x2, #0]
ldapr x1, [xzr]
stxr x3, x1, [x2]
stxr w3, w1, [x2]
stxr w3, x1, [w2]
stxr w1, x1, [x2]
stxr w2, x1, [x2]
stxr w31, x1, [x2]
stxr wzr, x1, [x2]
stxr xzr, x1, [x2]
stxr w03, x1, [x2]
stxr w, x1, [x2]
stxr W3, x1, [x2]
stxr w3, x1, [xzr]
stxr w3, x1, [x2, #0]
stxr w3, x1
stxr x1, [x2]
stxr w3, [x2]
stxr w3, x1, x2
stlxr x3, x1, [x2]
stlxr w1, x1, [x2]
stlxr w2, x1, [x2]
stlxr w31, x1, [x2]
stlxr w30, x30, [x2]
stlxr w0, x1, [x0]
dmb
dmb st
dmb ish
dmb LD
dmb #0
dmb ld sy
dmb ld, sy
dmb x1
dmb [ld]
svc
svc 3
svc #31
svc #-1
svc x3
svc [#3]
svc #3 #3
hlt
hlt 0
hlt #1
hlt #-1
hlt x0
hlt #0, #0
cas x3, x1
cas x3, x1, x2
cas x3, x1, [x2, #0]
cas xzr, x1, [x2]
cas x3, x1, [xzr]
cas w3, x1, [x2]
cas x1, [x2]
casa xzr, x1, [x2]
casl xzr, x1, [x2]
casal xzr, x1, [x2]
casb x1, x2, [x3]
swp x3, xzr, [x2]
swp x3, x1, [xzr]
swp w3, x1, [x2]
swp x3, x1, x2
swpa x3, xzr, [x2]
swpl x3, xzr, [x2]
swpal x3, xzr, [x2]
swpal x3, x1
ldadd x3, xzr, [x2]
ldadd x3, x1, [xzr]
ldadd x1, [x2]
ldadd x3, w1, [x2]
ldadda x3, xzr, [x2]
ldaddl x3, xzr, [x2]
ldaddal x3, xzr, [x2]
stadd x3, [x2]
ret
br x1
bl c`

// A rune that is of no token, wherever it stands.
func TestP15_2NoToken(t *testing.T) {
	for b := range 256 {
		text := string([]byte{byte(b)})
		if b == '\n' || strings.Contains(" \t\r", text) || isNamed(text) {
			continue
		}
		refused(t, "nop "+text, 1, api.ETEXT)
		refused(t, text+" nop", 1, api.ETEXT)
		refused(t, "nop\ncas x3, x1, "+text+" [x2]", 2, api.ETEXT)
	}
	for _, text := range []string{"\u0430dd x1, x2, x3", "add x1, x2, #\uff15", "ｎop", "n\u200bop", "x1\u0301: nop", "\ufffd", "\xff", "\xc3", "svc #\u0663"} {
		refused(t, text, 1, api.ETEXT)
	}
}

// Each byte behind, within and ahead of the tokens that are made of several runes.
func TestP15_2ByteOfToken(t *testing.T) {
	taken := 0
	for b := range 256 {
		x := string([]byte{byte(b)})
		for _, text := range []string{
			"svc #" + x, "svc #1" + x, "svc #" + x + "1", "svc #0x" + x, "svc #0x1" + x, "svc #0x" + x + "1", "svc #-" + x, "svc " + x + "1", "movz x1, #0x1" + x + "f",
			"b ." + x, "b .+" + x, "b .+1" + x, "b .+" + x + "1", "b .-1" + x, "b ." + x + "1", "b " + x + "+1",
			x + ": nop", "a" + x + ": nop", "a" + x + "c: nop", "b a\na" + x + ":", "b a" + x + "\na" + x + ":", "b " + x + "a\n" + x + "a:", "a" + x, x,
			"cmp x1" + x + ", x2", "cmp x" + x + ", x2", "cmp " + x + "1, x2", "cmp xz" + x + ", x2", "stxr w" + x + ", x10, [x11]", "stxr " + x + "1, x10, [x11]",
			"nop/" + x + " nop", "nop" + x + "/", "no" + x, "b.e" + x + " .+1", "b." + x + "e .+1",
		} {
			if _, e := against(t, text); e == api.OK {
				taken++
			}
		}
	}
	if taken < 400 {
		t.Errorf("not all is tried: only %d are taken", taken)
	}
}

// What is left out, put in twice, or exchanged with its neighbour: each token of each row.
func TestP15_2SpoiltRows(t *testing.T) {
	for _, r := range table {
		tokens := tokensOf(strings.NewReplacer("?", "eq", "X", "x1", "W", "w5", "#", "#0", "P", "#16", "C", "ge", "T", ".+7").Replace(r.text))
		if r.nameOf() == "lsl" && tokens[len(tokens)-1] == "#0" {
			tokens[len(tokens)-1] = "#1"
		}
		text := strings.Join(tokens, " ")
		if _, _, e := modelParse(text); e != api.OK {
			t.Fatalf("P15.2: %q: %v", text, e)
		}
		for n := range tokens {
			left := append([]string{}, tokens[:n]...)
			against(t, strings.Join(append(left, tokens[n+1:]...), " "))
			against(t, strings.Join(append(append(left[:n:n], tokens[n], tokens[n]), tokens[n+1:]...), " "))
			if n > 0 {
				turned := append([]string{}, tokens...)
				turned[n-1], turned[n] = turned[n], turned[n-1]
				against(t, strings.Join(turned, " "))
			}
			for _, other := range spareTokens {
				changed := append([]string{}, tokens...)
				changed[n] = other
				against(t, strings.Join(changed, " "))
			}
		}
		against(t, text+" ,")
	}
}

var spareTokens = strings.Fields("x0 x30 x31 xzr w0 w30 w31 wzr x2 a nop lsl ld sy eq le al #0 #1 #8 #16 #-1 #4096 #0x10 .+1 .-1 , [ ] : . # é")

func tokensOf(text string) []string {
	return strings.Fields(strings.NewReplacer(",", " , ", "[", " [ ", "]", " ] ").Replace(text))
}

// Names twice: on one line, and on two; and the first line that has one is told.
func TestP15_2Twice(t *testing.T) {
	refused(t, "a: a:", 1, api.ETWICE)
	refused(t, "a:\na:", 2, api.ETWICE)
	refused(t, "a: nop\nc: nop\n\nd: e: a: nop", 4, api.ETWICE)
	refused(t, "a: c: d: c:", 1, api.ETWICE)
	refused(t, "a:\nc:\nc:\na:", 3, api.ETWICE)
	refused(t, "x1: nop\nx1: nop", 2, api.ETWICE)
	refused(t, "b a\na: nop\na:", 3, api.ETWICE)
	reads(t, "a: A: a_: a.: _a: nop", nop)
	for k := range 40 {
		var text strings.Builder
		for n := range 40 {
			fmt.Fprintf(&text, "l%d: nop\n", n)
		}
		refused(t, text.String()+fmt.Sprintf("m: l%d:", k), 41, api.ETWICE)
	}
}

// Which fault is told: of a line, ETEXT ahead of ETWICE; of lines the first; branches when all lines are done, the first of them.
func TestP15_2WhichIsTold(t *testing.T) {
	refused(t, "a: a: bad", 1, api.ETEXT)
	refused(t, "a: a: ldr x1, [x2, #4]", 1, api.ETEXT)
	refused(t, "a:\na: bad", 2, api.ETEXT)
	refused(t, "a: a:\nbad", 1, api.ETWICE)
	refused(t, "bad\na: a:", 1, api.ETEXT)
	refused(t, "nop\nbad\nworse", 2, api.ETEXT)
	refused(t, "a: a:\nc: c:", 1, api.ETWICE)
	refused(t, "b q\nbad", 2, api.ETEXT)
	refused(t, "b q\na:\na:", 3, api.ETWICE)
	refused(t, "a: a: b q", 1, api.ETWICE)
	refused(t, "b q\nb r", 1, api.ENAME)
	refused(t, "q: b q\nb r\nb s", 2, api.ENAME)
	refused(t, "b c\n\n// b d\ncbz x1, d\nc: b.eq e", 4, api.ENAME)
	refused(t, "nop\nb.eq q\n", 2, api.ENAME)
	refused(t, "cbnz x1, q", 1, api.ENAME)
	refused(t, "cbz x31, q", 1, api.ETEXT)
	refused(t, "b .+33554432\nb q", 1, api.ETEXT)
	refused(t, "b q\nb .+33554432", 2, api.ETEXT)
	refused(t, "// b q\nb q // q:", 2, api.ENAME)
	refused(t, strings.Repeat("\n", 1000)+"b q", 1001, api.ENAME)
	refused(t, strings.Repeat("\n", 1000)+"é", 1001, api.ETEXT)
	refused(t, "nop\r\n\r\nbad\r\n", 3, api.ETEXT)
}
