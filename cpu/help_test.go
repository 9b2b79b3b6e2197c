package cpu_test

import (
	"fmt"
	"slices"
	"testing"

	"sextant/api"
	"sextant/asm"
	"sextant/cpu"
)

const top = 1<<64 - 1

// base puts the first cell's address into x1.
const base = "movz x1, #1, lsl #16\n"

// What may be wanted.
var (
	wantHalt  = api.Want{What: api.WantHalt}
	wantFault = api.Want{What: api.WantFault}
	wantFuel  = api.Want{What: api.WantFuel}
)

func wantPrint(v uint64) api.Want { return api.Want{What: api.WantPrint, Val: v} }
func wantFence(mode int) api.Want { return api.Want{What: api.WantFence, Mode: mode} }

func wantLoad(loc, mode int) api.Want {
	return api.Want{What: api.WantLoad, Loc: loc, Mode: mode}
}

func wantStore(loc int, v uint64, mode int) api.Want {
	return api.Want{What: api.WantStore, Loc: loc, Val: v, Mode: mode}
}

// ex is what an exclusive instruction wants, one what a single one does.
func ex(w api.Want) api.Want {
	w.Ex = true
	return w
}

func one(w api.Want) api.Want {
	w.One = true
	return w
}

func read(loc int, v uint64, mode int) api.Event {
	return api.Event{Kind: api.Read, Loc: loc, Val: v, Mode: mode}
}

func write(loc int, v uint64, mode int) api.Event {
	return api.Event{Kind: api.Write, Loc: loc, Val: v, Mode: mode}
}

func barrier(mode int) api.Event { return api.Event{Kind: api.Fence, Loc: -1, Mode: mode} }

// pairs tells those of a list of numbers, two by two.
func pairs(n ...int) (out []api.Pair) {
	for i := 0; i < len(n); i += 2 {
		out = append(out, api.Pair{A: n[i], B: n[i+1]})
	}
	return out
}

// words are those of a listing.
func words(t testing.TB, text string) []uint32 {
	t.Helper()
	w, line, e := asm.Parse(text)
	if e != api.OK {
		t.Fatalf("%.300q, line %d: %v", text, line, e)
	}
	return w
}

// made makes a machine of words that are all instructions'.
func made(t testing.TB, w []uint32) *cpu.Machine {
	t.Helper()
	m, e := cpu.New(w)
	if e != api.OK || m == nil {
		t.Fatalf("P16.1: New of %d words: %v, %v", len(w), m != nil, e)
	}
	return m
}

// machine makes one of a listing.
func machine(t testing.TB, text string) *cpu.Machine {
	t.Helper()
	return made(t, words(t, text))
}

// told asks a machine, more than once, and holds what it tells against what is wanted.
func told(t testing.TB, what string, m *cpu.Machine, want api.Want) {
	t.Helper()
	for i := range 3 {
		if got := m.Next(); got != want {
			t.Fatalf("P16.2: %.300q: asked for the %d. time: %+v, want %+v", what, i+1, got, want)
		}
	}
}

// fed feeds a machine that wants something.
func fed(t testing.TB, what string, m *cpu.Machine, values ...uint64) {
	t.Helper()
	for _, v := range values {
		if e := m.Feed(v); e != api.OK {
			t.Fatalf("P16.3: %.300q: fed %d: %v", what, v, e)
		}
	}
}

// notFed feeds a machine in vain: nothing changes.
func notFed(t testing.TB, what string, m *cpu.Machine, values ...uint64) {
	t.Helper()
	want, run, regs := m.Next(), m.Run(), registers(m)
	for _, v := range values {
		if e := m.Feed(v); e != api.EARG {
			t.Fatalf("P16.3: %.300q: fed %d: %v, want EARG", what, v, e)
		}
	}
	if got := m.Next(); got != want || registers(m) != regs || !sameRun(m.Run(), run) {
		t.Fatalf("P16.3, R3: %.300q: fed in vain: wants %+v, did want %+v; %+v, was %+v", what, got, want, m.Run(), run)
	}
}

func holdReg(t testing.TB, what string, m *cpu.Machine, n int, want uint64) {
	t.Helper()
	if got := m.Reg(n); got != want {
		t.Fatalf("P16.1, P16.2: %.300q: x%d is %#x, want %#x", what, n, got, want)
	}
}

// registers are all that may be asked for, and some more.
func registers(m *cpu.Machine) (out [33]uint64) {
	for i := range out {
		out[i] = m.Reg(i)
	}
	return out
}

// sameRun: are the runs one? nil and an empty list are.
func sameRun(a, b api.Run) bool {
	return slices.Equal(a.Events, b.Events) && slices.Equal(a.Rmw, b.Rmw) && slices.Equal(a.Addr, b.Addr) &&
		slices.Equal(a.Data, b.Data) && slices.Equal(a.Ctrl, b.Ctrl) && slices.Equal(a.Outs, b.Outs) &&
		a.State == b.State && a.Loc == b.Loc && a.Used == b.Used
}

func holdRun(t testing.TB, what string, got, want api.Run) {
	t.Helper()
	if !sameRun(got, want) {
		t.Fatalf("%.300q: %.900s; want %.900s", what, fmt.Sprintf("%+v", got), fmt.Sprintf("%+v", want))
	}
}

// replay runs words that are all instructions'.
func replay(t testing.TB, w []uint32, reads []uint64, wins []bool, fuel int) api.Run {
	t.Helper()
	r, e := cpu.Replay(w, reads, wins, fuel)
	if e != api.OK {
		t.Fatalf("P16.5: Replay of %d words, fuel %d: %v", len(w), fuel, e)
	}
	return r
}

// isNothing: has a run nothing at all?
func isNothing(r api.Run) bool { return sameRun(r, api.Run{}) }

// dice gives numbers from 0 to n - 1 that look like chance and are the same in each run.
func dice(seed uint64) func(n int) int {
	return func(n int) int {
		seed += 0x9e3779b97f4a7c15
		z := (seed ^ seed>>30) * 0xbf58476d1ce4e5b9
		z = (z ^ z>>27) * 0x94d049bb133111eb
		return int((z ^ z>>31) % uint64(n))
	}
}

// pick tells one of a list.
func pick[T any](roll func(n int) int, l []T) T { return l[roll(len(l))] }
