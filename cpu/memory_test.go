package cpu_test

import (
	"fmt"
	"math"
	"reflect"
	"slices"
	"testing"
	"unsafe"

	"sextant/api"
	"sextant/code"
	"sextant/cpu"
)

// span is the memory of a list, spare room too.
type span struct{ low, high uintptr }

func spanOf[T any](l []T) span {
	low := uintptr(unsafe.Pointer(unsafe.SliceData(l)))
	return span{low, low + uintptr(cap(l))*reflect.TypeFor[T]().Size()}
}

func runSpans(r api.Run) []span {
	return []span{spanOf(r.Events), spanOf(r.Rmw), spanOf(r.Addr), spanOf(r.Data), spanOf(r.Ctrl), spanOf(r.Outs)}
}

// What is answered shares no memory, neither with what was handed in nor with another answer.
func TestR4NoTwoListsShareMemory(t *testing.T) {
	eachMade(t, 16900, 300, func(m maker, what string, w []uint32) {
		reads, wins := m.values(10), m.wins(6)
		a, b := replay(t, w, reads, wins, 200), replay(t, w, reads, wins, 200)
		x := made(t, w)
		for _, v := range reads {
			x.Feed(v)
		}
		y := x.Clone()
		all := []span{spanOf(w), spanOf(reads), spanOf(wins)}
		for _, r := range []api.Run{a, b, x.Run(), x.Run(), y.Run()} {
			all = append(all, runSpans(r)...)
		}
		for i, s := range all {
			for _, o := range all[:i] {
				if s.low < s.high && o.low < o.high && s.low < o.high && o.low < s.high {
					t.Fatalf("R4: %s: two lists share memory", what)
				}
			}
		}
	})
}

// spoil writes over all that a run's lists have, the room behind them too.
func spoil(r api.Run) {
	events := r.Events[:cap(r.Events)]
	for i := range events {
		events[i] = api.Event{Thread: 99, Kind: 99, Loc: 99, Val: 99, Mode: 99}
	}
	for _, l := range [][]api.Pair{r.Rmw, r.Addr, r.Data, r.Ctrl} {
		l = l[:cap(l)]
		for i := range l {
			l[i] = api.Pair{A: 99, B: 99}
		}
	}
	outs := r.Outs[:cap(r.Outs)]
	for i := range outs {
		outs[i] = 99
	}
}

// What was told of a run may be written to; the machine goes on as it would have, and so does its clone.
func TestR4RunsAreCopies(t *testing.T) {
	m, as := machine(t, copied+single), machine(t, copied+single)
	for _, v := range []uint64{5, 0, 0} {
		fed(t, "a run", m, v)
		fed(t, "a run", as, v)
		c := m.Clone()
		spoil(m.Run())
		spoil(c.Run())
		holdRun(t, "R4: written over", m.Run(), as.Run())
		holdRun(t, "R4: written over, a clone", c.Run(), as.Run())
	}
	told(t, "written over", m, wantHalt)
	w := words(t, adding)
	spoil(replay(t, w, []uint64{7, 8}, []bool{false, true}, 100))
	if r := replay(t, w, []uint64{7, 8}, []bool{false, true}, 100); len(r.Events) != 3 || r.Events[0].Val != 7 {
		t.Errorf("R4: written over: %+v", r)
	}
}

// Words, values and outcomes are not changed, nor is the room behind them; nor are they kept.
func TestR4WhatIsHandedIn(t *testing.T) {
	eachMade(t, 17000, 300, func(m maker, what string, w []uint32) {
		reads, wins := m.values(8), m.wins(4)
		want := replay(t, w, reads, wins, 100)
		as := made(t, w)
		roomyWords := append(slices.Clone(w), 1, 2, 3)
		roomyReads := append(slices.Clone(reads), 7, 8, 9)
		roomyWins := append(slices.Clone(wins), true, false, true)
		wereWords, wereReads, wereWins := slices.Clone(roomyWords), slices.Clone(roomyReads), slices.Clone(roomyWins)
		got := replay(t, roomyWords[:len(w)], roomyReads[:8], roomyWins[:4], 100)
		x := made(t, roomyWords[:len(w)])
		for _, v := range reads[:2] {
			x.Feed(v)
			as.Feed(v)
		}
		if !slices.Equal(roomyWords, wereWords) || !slices.Equal(roomyReads, wereReads) || !slices.Equal(roomyWins, wereWins) {
			t.Fatalf("R4: %s: what is handed in is changed", what)
		}
		clear(roomyWords)
		clear(roomyReads)
		clear(roomyWins)
		holdRun(t, "R4: "+what, got, want)
		for range 10 {
			v := m.value()
			if x.Next() != as.Next() || x.Feed(v) != as.Feed(v) {
				t.Fatalf("R4: %s: a machine has kept its words", what)
			}
			holdRun(t, "R4: "+what, x.Run(), as.Run())
		}
	})
}

// nil and an empty list are one.
func TestR4EmptyLists(t *testing.T) {
	for _, text := range []string{"", copied, adding, single, "hlt #0"} {
		w := words(t, text)
		holdRun(t, "R4: "+text, replay(t, w, []uint64{}, []bool{}, 50), replay(t, w, nil, nil, 50))
		holdRun(t, "R4: "+text, replay(t, w, []uint64{3, 3}, []bool{}, 50), replay(t, w, []uint64{3, 3}, nil, 50))
	}
	holdRun(t, "R4: no words", replay(t, []uint32{}, nil, nil, 5), replay(t, nil, nil, nil, 5))
}

// Machines, and clones of one, at the same time.
func TestR5AtTheSameTime(t *testing.T) {
	w := words(t, base+"movz x3, #5\nl: ldaxr x2, [x1]\nadd x4, x2, x3\nstlxr w5, x4, [x1]\ncbnz x5, l\nswp x4, x6, [x1]\ncmp x6, x2\nb.hi .+2\ndmb sy\nsub x3, x3, #1\nsvc #6\ncbnz x3, l\nhlt #0")
	reads, wins := []uint64{1, 2, 3, 4, 5, 6, 7, 8, 9, 10}, []bool{true, false, true, true, true}
	m := made(t, w)
	fed(t, "at the same time", m, 4, 1)
	trace := func(m *cpu.Machine) string {
		out := ""
		for v := range uint64(24) {
			out += fmt.Sprint(m.Next(), registers(m), m.Run())
			m.Feed(v % 3)
		}
		return out
	}
	want, wantRun := trace(m.Clone()), replay(t, w, reads, wins, 100)
	said := make(chan string)
	for range 8 {
		c := m.Clone()
		go func() {
			for range 60 {
				if got := trace(c.Clone()); got != want {
					said <- "R5: a clone: " + got
					return
				}
				if r, e := cpu.Replay(w, reads, wins, 100); e != api.OK || !sameRun(r, wantRun) {
					said <- fmt.Sprintf("R5: %+v, %v", r, e)
					return
				}
			}
			said <- ""
		}()
	}
	for range 8 {
		if s := <-said; s != "" {
			t.Error(s)
		}
	}
}

// Whatever is handed in: no call panics, and each ends.
func TestR1Anything(t *testing.T) {
	roll := dice(4716)
	wild := []int{math.MinInt, -1 << 32, -2, -1, 0, 1, 2, 3, 7, 40, 1000, 1 << 32, math.MaxInt}
	taken, refused := 0, 0
	eachMade(t, 17100, 1500, func(m maker, what string, w []uint32) {
		for range roll(4) { // one bit or another is turned
			w[roll(len(w))] ^= 1 << roll(32)
		}
		reads, wins := m.values(roll(9)), m.wins(roll(4))
		cpu.Replay(w, reads, wins, pick(roll, wild))
		x, e := cpu.New(w)
		if e != api.OK {
			refused++
			return
		}
		taken++
		for range 30 {
			x.Next()
			x.Reg(pick(roll, wild))
			x.Feed(m.value())
			x.Run()
			x = x.Clone()
		}
	})
	if taken < 300 || refused < 300 {
		t.Errorf("not all is tried: %d are taken, %d refused", taken, refused)
	}
}

// Lists of instructions of each operation, at the ends of their fields, each behind and ahead of others.
func TestR1EachOperation(t *testing.T) {
	roll := dice(4717)
	m := maker{roll: roll}
	ends := []int64{math.MinInt64, -1 << 25, -1 << 18, -1, 0, 1, 8, 63, 4095, 32760, 65535, 1<<18 - 1, 1<<25 - 1, math.MaxInt64}
	tried := map[int]int{}
	for op := 1; op <= code.Ldaddal; op++ {
		for range 60 {
			i := api.Ins{Op: op, Rd: pick(roll, []int{0, 30, 31}), Rn: pick(roll, []int{0, 30, 31}), Rm: pick(roll, []int{0, 30, 31}), Imm: pick(roll, ends), Cond: roll(14)}
			if i = trimmed(i); !code.Fits(i) {
				continue
			}
			tried[op]++
			w, _, _ := code.Words([]api.Ins{{Op: code.Movz, Rd: 0, Imm: 1, Cond: 1}, {Op: code.Addi, Rd: 30}, {Op: code.Ldxr, Rd: 2, Rn: 0}, i, i, {Op: code.Hlt}})
			p, x := paperOf(w), made(t, w)
			for range 8 {
				v := m.value() & 1
				if got, want := x.Next(), p.next().want; got != want {
					t.Fatalf("P16.2: %+v: wants %+v, not %+v", i, got, want)
				}
				if x.Feed(v) != p.feed(v) || registers(x) != p.registers() {
					t.Fatalf("P16.3: %+v: fed %d: %v, want %v", i, v, registers(x), p.registers())
				}
			}
		}
	}
	if len(tried) != code.Ldaddal {
		t.Errorf("not all is tried: %d operations", len(tried))
	}
}
