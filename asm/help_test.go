package asm_test

import (
	"slices"
	"testing"

	"sextant/api"
	"sextant/asm"
	"sextant/code"
)

// dice is a row of numbers that is the same in each run.
type dice uint64

func (d *dice) next() uint64 {
	*d += 0x9e3779b97f4a7c15
	z := uint64(*d)
	z = (z ^ z>>30) * 0xbf58476d1ce4e5b9
	z = (z ^ z>>27) * 0x94d049bb133111eb
	return z ^ z>>31
}

// roll tells a number from 0 to n - 1.
func (d *dice) roll(n int) int { return int(d.next() % uint64(n)) }

// pick tells one of a list.
func pick[T any](d *dice, l []T) T { return l[d.roll(len(l))] }

// reads asks for the words of a listing.
func reads(t *testing.T, text string, want ...uint32) {
	t.Helper()
	if words, line, e := asm.Parse(text); !slices.Equal(words, want) || line != 0 || e != api.OK {
		t.Errorf("P15.2: Parse(%.200q) = %08x, %d, %v; want %08x", text, words, line, e, want)
	}
}

// refused asks for a fault at a line, and for nothing beside it.
func refused(t *testing.T, text string, line int, want api.Errno) {
	t.Helper()
	if words, at, e := asm.Parse(text); len(words) != 0 || at != line || e != want {
		t.Errorf("P15.2, R2: Parse(%.200q) = %08x, %d, %v; want %v at %d", text, words, at, e, want, line)
	}
}

// prints asks for the listing of words.
func prints(t *testing.T, want string, words ...uint32) {
	t.Helper()
	if text, at, e := asm.Print(words); text != want || at != 0 || e != api.OK {
		t.Errorf("P15.1: Print(%08x) = %.200q, %d, %v; want %.200q", words, text, at, e, want)
	}
}

// unprinted asks for a fault at a word, and for nothing beside it.
func unprinted(t *testing.T, words []uint32, at int, want api.Errno) {
	t.Helper()
	if text, n, e := asm.Print(words); text != "" || n != at || e != want {
		t.Errorf("P15.1, R2: Print of %d words = %.200q, %d, %v; want %v at %d", len(words), text, n, e, want, at)
	}
}

// both holds a listing in Print's own form against its words, there and back.
func both(t *testing.T, text string, words ...uint32) {
	t.Helper()
	reads(t, text, words...)
	prints(t, text, words...)
}

// word is an instruction's.
func word(t *testing.T, i api.Ins) uint32 {
	t.Helper()
	w, e := code.Encode(i)
	if e != api.OK {
		t.Fatalf("%+v has no word", i)
	}
	return w
}

// words are those of instructions.
func words(t *testing.T, l ...api.Ins) (out []uint32) {
	t.Helper()
	for _, i := range l {
		out = append(out, word(t, i))
	}
	return out
}

// any tells an instruction of an operation, its fields anywhere in their ranges and at times at their ends. near: a branch goes no farther than so.
func (d *dice) any(op, near int) api.Ins {
	registers := []int{0, 1, 2, 9, 10, 19, 20, 29, 30, 31, d.roll(32), d.roll(32)}
	numbers := []int64{0, 1, 8, 16, 63, 64, 4095, 32760, 65535, int64(d.roll(64)), int64(d.roll(4096)), 8 * int64(d.roll(4096)), int64(d.roll(65536)), 0, 0}
	for {
		i := api.Ins{Op: op}
		if d.roll(20) > 0 {
			i.Rd, i.Rn, i.Rm = pick(d, registers), pick(d, registers), pick(d, registers)
		}
		i.Imm, i.Cond = pick(d, numbers), d.roll(14)
		if isBranch(op) {
			i.Imm = int64(d.roll(2*near+1) - near)
		}
		if i = trimmed(i); code.Fits(i) {
			return i
		}
	}
}

// trimmed has 0 in the fields that an operation has not.
func trimmed(i api.Ins) api.Ins {
	used := rowsOf(i.Op)
	has := func(letters string) bool {
		for _, r := range used {
			for _, l := range letters {
				if slices.Contains(r.fields, l) {
					return true
				}
			}
		}
		return false
	}
	if !has("D") {
		i.Rd = 0
	}
	if !has("N") {
		i.Rn = 0
	}
	if !has("M") {
		i.Rm = 0
	}
	if !has("IT") {
		i.Imm = 0
	}
	if i.Op != code.Bcond && !has("CP") {
		i.Cond = 0
	}
	if i.Op == code.Movz || i.Op == code.Movk {
		i.Cond %= 4
	}
	if i.Op == code.Hlt {
		i.Imm = 0
	}
	return i
}

func isBranch(op int) bool {
	return op == code.B || op == code.Bcond || op == code.Cbz || op == code.Cbnz
}

// some are so many instructions of all operations, whose branches go to anywhere within, and somewhat beyond.
func (d *dice) some(size int) (l []api.Ins) {
	for range size {
		l = append(l, d.any(1+d.roll(code.Ldaddal), size/2+2))
	}
	return l
}
