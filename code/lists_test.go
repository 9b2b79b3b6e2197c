package code_test

import (
	"fmt"
	"math"
	"slices"
	"testing"

	"sextant/api"
	"sextant/code"
)

// some makes instructions of all operations, and their words by the model.
func (d *dice) some(size int) (l []api.Ins, words []uint32) {
	all := lines()
	for range size {
		one := all[d.roll(int64(len(all)))]
		i := d.one(one)
		l, words = append(l, i), append(words, one.word(i))
	}
	return l, words
}

// wordsAre asks Words for these, or for a fault at a place.
func wordsAre(t *testing.T, l []api.Ins, want []uint32, wantAt int, wantE api.Errno) {
	t.Helper()
	if words, at, e := code.Words(l); !slices.Equal(words, want) || at != wantAt || e != wantE {
		t.Fatalf("P14.2: Words of %d instructions: %d words, %d, %v; want %d, %d, %v", len(l), len(words), at, e, len(want), wantAt, wantE)
	}
}

// listIs asks List for these, or for a fault at a place.
func listIs(t *testing.T, words []uint32, want []api.Ins, wantAt int, wantE api.Errno) {
	t.Helper()
	if l, at, e := code.List(words); !slices.Equal(l, want) || at != wantAt || e != wantE {
		t.Fatalf("P14.2: List of %d words: %d instructions, %d, %v; want %d, %d, %v", len(words), len(l), at, e, len(want), wantAt, wantE)
	}
}

func TestP14_2ThereAndBack(t *testing.T) {
	d := dice(10)
	for size := range 300 {
		l, words := d.some(size)
		wordsAre(t, l, words, 0, api.OK)
		listIs(t, words, l, 0, api.OK)
	}
	wordsAre(t, nil, nil, 0, api.OK)
	listIs(t, nil, nil, 0, api.OK)
	wordsAre(t, []api.Ins{}, nil, 0, api.OK)
	listIs(t, []uint32{}, nil, 0, api.OK)
	wordsAre(t, []api.Ins{{Op: code.Nop}, {Op: code.B, Imm: -1}, {Op: code.Nop}}, []uint32{0xd503201f, 0x17ffffff, 0xd503201f}, 0, api.OK)
	listIs(t, []uint32{0xd503201f, 0x17ffffff, 0xd503201f}, []api.Ins{{Op: code.Nop}, {Op: code.B, Imm: -1}, {Op: code.Nop}}, 0, api.OK)
}

// wrongOnes are no instructions, each for a reason of its own; wrongWords likewise.
func wrongOnes() []api.Ins {
	return []api.Ins{
		{}, {Op: -1}, {Op: 48}, {Op: code.Movz, Rd: 32}, {Op: code.Hlt, Imm: 1}, {Op: code.Lsli}, {Op: code.Ldr, Imm: 4},
		{Op: code.Stxr}, {Op: code.Cset, Cond: 14}, {Op: code.B, Imm: math.MinInt64}, {Op: code.Swp, Rd: 31},
	}
}

func wrongWords() []uint32 {
	return []uint32{0, 0xffffffff, 0xd5033ebf, 0xd4400020, 0xd3400020, 0x9a9fe7e2, 0xc8007c00, 0xf823805f, 0xd40003e1}
}

// Wherever the wrong ones stand, the first of them is told.
func TestP14_2TheFirstThatIsWrong(t *testing.T) {
	d := dice(11)
	ones, others := wrongOnes(), wrongWords()
	for _, size := range []int{1, 2, 3, 10, 50} {
		for first := range size {
			for more := range 4 {
				l, words := d.some(size)
				l[first] = ones[d.roll(int64(len(ones)))]
				words[first] = others[d.roll(int64(len(others)))]
				for range more { // the later ones don't matter
					next := first + int(d.roll(int64(size-first)))
					l[next] = ones[d.roll(int64(len(ones)))]
					words[next] = others[d.roll(int64(len(others)))]
				}
				wordsAre(t, l, nil, first, api.EWORD)
				listIs(t, words, nil, first, api.EWORD)
			}
		}
	}
	for _, i := range ones {
		wordsAre(t, []api.Ins{i}, nil, 0, api.EWORD)
		wordsAre(t, []api.Ins{{Op: code.Nop}, i}, nil, 1, api.EWORD)
	}
	for _, w := range others {
		listIs(t, []uint32{w}, nil, 0, api.EWORD)
		listIs(t, []uint32{0xd503201f, w}, nil, 1, api.EWORD)
	}
}

// At the limit all is well; one past it is refused, ahead of whatever else is wrong.
func TestP14_2Limit(t *testing.T) {
	d := dice(12)
	l, words := d.some(api.MaxWords)
	wordsAre(t, l, words, 0, api.OK)
	listIs(t, words, l, 0, api.OK)
	for _, at := range []int{0, api.MaxWords / 2, api.MaxWords - 1} {
		i, w := l[at], words[at]
		l[at], words[at] = api.Ins{}, 0
		wordsAre(t, l, nil, at, api.EWORD)
		listIs(t, words, nil, at, api.EWORD)
		wordsAre(t, append(l, i), nil, api.MaxWords, api.ELIMIT)
		listIs(t, append(words, w), nil, api.MaxWords, api.ELIMIT)
		l[at], words[at] = i, w
	}
	wordsAre(t, append(l, api.Ins{Op: code.Nop}), nil, api.MaxWords, api.ELIMIT)
	listIs(t, append(words, 0xd503201f), nil, api.MaxWords, api.ELIMIT)
	wordsAre(t, append(l, api.Ins{}), nil, api.MaxWords, api.ELIMIT)
	listIs(t, append(words, 0), nil, api.MaxWords, api.ELIMIT)
	wordsAre(t, append(l, l...), nil, api.MaxWords, api.ELIMIT)
	listIs(t, append(words, words...), nil, api.MaxWords, api.ELIMIT)
}

// What is handed in stays as it is, its spare room too, and what is answered is memory of its own, to the end of its room.
func TestR4Lists(t *testing.T) {
	d := dice(13)
	for size := range 100 {
		l, words := d.some(size + 20)
		keptL, keptWords := slices.Clone(l), slices.Clone(words)
		if size%3 == 2 { // a refused one
			l[size/2], words[size/2] = api.Ins{}, 0
			keptL[size/2], keptWords[size/2] = api.Ins{}, 0
		}
		answer, _, _ := code.Words(l[:size])
		again, _, _ := code.Words(l[:size])
		back, _, _ := code.List(words[:size])
		backAgain, _, _ := code.List(words[:size])
		want, wantBack := slices.Clone(again), slices.Clone(backAgain)
		answer, back = answer[:cap(answer)], back[:cap(back)]
		for n := range answer {
			answer[n] = 0xdeadbeef
		}
		for n := range back {
			back[n] = api.Ins{Op: -7}
		}
		if !slices.Equal(l, keptL) || !slices.Equal(words, keptWords) {
			t.Fatalf("R4: lists of %d are changed", size)
		}
		if !slices.Equal(again, want) || !slices.Equal(backAgain, wantBack) {
			t.Fatalf("R4: two answers of %d share memory", size)
		}
		clear(l)
		clear(words)
		if !slices.Equal(again, want) || !slices.Equal(backAgain, wantBack) {
			t.Fatalf("R4: an answer of %d shares memory with what was handed in", size)
		}
	}
}

// The same is answered by many at the same time, and each time.
func TestR5AtTheSameTime(t *testing.T) {
	d := dice(14)
	l, words := d.some(500)
	said := make(chan string)
	for range 8 {
		go func() {
			for range 50 {
				got, _, e := code.Words(l)
				back, _, f := code.List(words)
				if e != api.OK || f != api.OK || !slices.Equal(got, words) || !slices.Equal(back, l) {
					said <- fmt.Sprintf("R5: %v, %v", e, f)
					return
				}
			}
			said <- ""
		}()
	}
	for range 8 {
		if s := <-said; s != "" {
			t.Error(s)
		}
	}
}

// Whatever is handed in: no call panics, an error comes with nothing else, and what is taken goes there and back.
func TestR1Anything(t *testing.T) {
	d, wilds := dice(15), wild()
	pick := func() int64 { return wilds[d.roll(int64(len(wilds)))] }
	taken, refused := 0, 0
	for range 200000 {
		i := api.Ins{Op: int(d.roll(51)) - 2}
		for range d.roll(4) {
			i = with(i, int(d.roll(6)), pick())
		}
		w, e := code.Encode(i)
		back, f := code.Decode(w)
		switch {
		case e == api.OK && code.Fits(i) && f == api.OK && back == i:
			taken++
		case e == api.EWORD && !code.Fits(i) && w == 0:
			refused++
		default:
			t.Fatalf("P14.1: %+v: %08x, %v, Fits %v; back %+v, %v", i, w, e, code.Fits(i), back, f)
		}
	}
	if taken < 10000 || refused < 10000 {
		t.Errorf("not all is tried: %d are taken, %d refused", taken, refused)
	}
}

// Words of all sorts: one that is decoded is that instruction's word, as the model says; another one comes with nothing.
func TestR1AnyWord(t *testing.T) {
	all, d := newTable(), dice(16)
	for range 300000 {
		wordAsModel(t, "any", all, uint32(d.next()))
	}
}
