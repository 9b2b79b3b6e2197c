package code_test

import (
	"testing"

	"sextant/api"
	"sextant/code"
)

// dice is a row of numbers that is the same in each run.
type dice uint64

func (d *dice) next() uint64 {
	*d += 0x9e3779b97f4a7c15
	z := uint64(*d)
	z = (z ^ z>>30) * 0xbf58476d1ce4e5b9
	z = (z ^ z>>27) * 0x94d049bb133111eb
	return z ^ z>>31
}

// roll tells a number from 0 to n - 1.
func (d *dice) roll(n int64) int64 { return int64(d.next() % uint64(n)) }

// one makes an instruction of a line, with its fields anywhere in their ranges and at times at their ends.
func (d *dice) one(l line) api.Ins {
	for {
		i := api.Ins{Op: l.op}
		i.Rd = int(d.within(0, l.registers('D', 'd')))
		i.Rn = int(d.within(0, l.registers('N', 'n')))
		i.Rm = int(d.within(0, l.registers('M', 'm')))
		i.Imm = d.within(l.least, l.most)
		if l.has('E') {
			i.Imm -= i.Imm % 8
		}
		i.Cond = int(d.within(0, l.conds))
		if l.fits(i) {
			return i
		}
	}
}

func (d *dice) within(least, most int64) int64 {
	switch d.roll(8) {
	case 0:
		return least
	case 1:
		return most
	}
	return least + d.roll(most-least+1)
}

// registers tells the greatest register of a field.
func (l line) registers(big, small byte) int64 {
	switch {
	case l.has(big):
		return 31
	case l.has(small):
		return 30
	}
	return 0
}

// taken asks all three calls of an instruction that has this word.
func taken(t *testing.T, what string, i api.Ins, want uint32) {
	t.Helper()
	w, e := code.Encode(i)
	if !code.Fits(i) || w != want || e != api.OK {
		t.Fatalf("P14.1: %s: Fits(%+v) = %v, Encode %08x, %v; want %08x", what, i, code.Fits(i), w, e, want)
	}
	if back, e := code.Decode(want); back != i || e != api.OK {
		t.Fatalf("P14.1: %s: Decode(%08x) = %+v, %v; want %+v", what, want, back, e, i)
	}
}

// refused asks of one that is no instruction.
func refused(t *testing.T, what string, i api.Ins) {
	t.Helper()
	if w, e := code.Encode(i); code.Fits(i) || w != 0 || e != api.EWORD {
		t.Fatalf("P14.1: %s: Fits(%+v) = %v, Encode %08x, %v; want EWORD", what, i, code.Fits(i), w, e)
	}
}

// noWord asks of a word that is no instruction's.
func noWord(t *testing.T, what string, w uint32) {
	t.Helper()
	if i, e := code.Decode(w); i != (api.Ins{}) || e != api.EWORD {
		t.Fatalf("P14.1: %s: Decode(%08x) = %+v, %v; want EWORD", what, w, i, e)
	}
}

// asModel asks of any instruction what the model says of it.
func asModel(t *testing.T, what string, l line, i api.Ins) bool {
	t.Helper()
	if l.fits(i) {
		taken(t, what, i, l.word(i))
		return true
	}
	refused(t, what, i)
	return false
}

// wordAsModel asks of any word what the model says of it.
func wordAsModel(t *testing.T, what string, all table, w uint32) (api.Ins, bool) {
	t.Helper()
	found := all.decode(w)
	if len(found) == 0 {
		noWord(t, what, w)
		return api.Ins{}, false
	}
	if len(found) > 1 {
		t.Fatalf("P14.3: %s: %08x is the word of %+v", what, w, found)
	}
	taken(t, what, found[0], w)
	return found[0], true
}
