package cpu_test

import (
	"fmt"
	"math/bits"
	"slices"
	"testing"

	"sextant/api"
	"sextant/code"
)

// maker makes threads of words.
type maker struct {
	roll func(n int) int
	ops  []int // those that are asked for
}

// thread is one of some instructions behind those that make addresses: x1, x9, x10, x11 are cells'; it ends with a halt, if it ends.
func (m maker) thread() []api.Ins {
	list := []api.Ins{{Op: code.Movz, Rd: 1, Imm: 1, Cond: 1}, {Op: code.Addi, Rd: 9, Rn: 1, Imm: 8}, {Op: code.Addi, Rd: 10, Rn: 1, Imm: 4088}, {Op: code.Addi, Rd: 11, Rn: 1}}
	size := 4 + m.roll(30)
	for len(list) < size {
		list = append(list, m.ins(len(list), size))
		if last := list[len(list)-1]; accesses[last.Op].exclusive && accesses[last.Op].read != 0 && m.roll(3) > 0 {
			list = append(list, m.closing(last))
		}
	}
	if m.roll(8) > 0 {
		list = append(list, api.Ins{Op: code.Hlt})
	}
	return list
}

// closing is an exclusive store of the cell of an exclusive load, if there may be one.
func (m maker) closing(load api.Ins) api.Ins {
	i := api.Ins{Op: pick(m.roll, []int{code.Stxr, code.Stlxr}), Rd: m.register(), Rn: load.Rn, Rm: m.register()}
	if !slices.Contains(m.ops, i.Op) || !code.Fits(i) {
		return api.Ins{Op: code.Nop}
	}
	return i
}

// ins is one at a place of a thread of that size.
func (m maker) ins(at, size int) api.Ins {
	for {
		i := api.Ins{Op: pick(m.roll, m.ops), Rd: m.register(), Rn: m.register(), Rm: m.register(), Cond: m.roll(14)}
		_, has := accesses[i.Op]
		if has && m.roll(20) > 0 {
			i.Rn = pick(m.roll, []int{1, 1, 1, 9, 9, 10, 11, 11})
		}
		switch i.Op {
		case code.B, code.Bcond, code.Cbz, code.Cbnz:
			i.Imm = int64(1 + m.roll(4))
			if m.roll(8) == 0 {
				i.Imm = int64(m.roll(size+4) - at - 2)
			}
		case code.Ldr, code.Str:
			i.Imm = pick(m.roll, []int64{0, 0, 0, 8, 8, 28672, 32760})
		case code.Movz, code.Movk:
			i.Imm, i.Cond = pick(m.roll, []int64{0, 1, 8, 65535, int64(m.roll(65536))}), m.roll(4)
		case code.Hlt:
			if m.roll(3) > 0 {
				continue
			}
		default:
			i.Imm = int64(m.roll(64))
		}
		if i.Op == code.Add && m.roll(3) == 0 { // an address that hangs on something
			i.Rd, i.Rn = 11, pick(m.roll, []int{1, 9, 9})
		}
		if i = trimmed(i); code.Fits(i) {
			return i
		}
	}
}

func (m maker) register() int { return pick(m.roll, []int{2, 3, 4, 5, 6, 7, 8, 2, 3, 4, 30, 31}) }

// trimmed has 0 in as few fields as make it an instruction.
func trimmed(i api.Ins) api.Ins {
	for fields := range 6 {
		for mask := range uint(32) {
			if bits.OnesCount(mask) != fields {
				continue
			}
			j := i
			for n, f := range []*int{&j.Rd, &j.Rn, &j.Rm, &j.Cond} {
				if mask>>n&1 == 1 {
					*f = 0
				}
			}
			if mask>>4&1 == 1 {
				j.Imm = 0
			}
			if code.Fits(j) {
				return j
			}
		}
	}
	return i
}

func (m maker) value() uint64 {
	return pick(m.roll, []uint64{0, 0, 0, 1, 1, 2, 8, 8, 16, 24, 1 << 63, top, 1<<63 - 1, 7, uint64(m.roll(1 << 30))})
}

func (m maker) values(n int) (out []uint64) {
	for range n {
		out = append(out, m.value())
	}
	return out
}

func (m maker) wins(n int) (out []bool) {
	for range n {
		out = append(out, m.roll(3) > 0)
	}
	return out
}

// eachMade tries so many threads of any operations but those.
func eachMade(t *testing.T, seed uint64, n int, f func(m maker, what string, w []uint32), but ...int) {
	t.Helper()
	m := maker{roll: dice(seed)}
	for op := 1; op <= code.Ldaddal; op++ {
		if slices.Contains(but, op) {
			continue
		}
		m.ops = append(m.ops, op)
		if _, has := accesses[op]; has || op == code.Addi {
			m.ops = append(m.ops, op)
		}
	}
	m.ops = append(m.ops, code.Ldr, code.Ldr, code.Ldxr, code.Ldxr, code.Stxr, code.Stxr, code.Add, code.Add)
	m.ops = slices.DeleteFunc(m.ops, func(op int) bool { return slices.Contains(but, op) })
	for i := range n {
		list := m.thread()
		w, at, e := code.Words(list)
		if e != api.OK {
			t.Fatalf("%+v has no word", list[at])
		}
		f(m, fmt.Sprintf("thread %d of %d", i, seed), w)
	}
}

// Machines, asked and fed at any time, are what the chapter's tables say.
func TestP16_2P16_3P16_4MadeMachines(t *testing.T) {
	seen, states := map[api.Want]int{}, map[int]int{}
	eachMade(t, 16100, 4000, func(m maker, what string, w []uint32) {
		p, x := paperOf(w), made(t, w)
		for range 40 {
			if m.roll(5) == 0 {
				x = x.Clone()
			}
			if m.roll(4) == 0 { // fed without being asked
				v := m.value()
				if got, want := x.Feed(v), p.feed(v); got != want {
					t.Fatalf("P16.3: %s: fed %d: %v, want %v\n%s", what, v, got, want, shown(w))
				}
			}
			first := x.Run()
			want := p.next().want
			if got := x.Next(); got != want {
				t.Fatalf("P16.2: %s: wants %+v, not %+v\n%s", what, got, want, shown(w))
			}
			run := p.told()
			run.State, run.Loc = stateFor(want)
			if !sameRun(first, run) || !sameRun(x.Run(), run) || registers(x) != p.registers() {
				t.Fatalf("P16.4: %s: %+v, want %+v; registers %v, want %v\n%s", what, first, run, registers(x), p.registers(), shown(w))
			}
			kind := want
			kind.Loc, kind.Val = 0, 0
			seen[kind]++
			v := m.value()
			if want.Ex && want.What == api.WantStore && m.roll(5) > 0 {
				v = min(v, 1)
			}
			got, e := x.Feed(v), p.feed(v)
			if got != e {
				t.Fatalf("P16.3: %s: fed %d: %v, want %v\n%s", what, v, got, e, shown(w))
			}
			if got != api.OK && !want.Ex {
				states[run.State]++
				return
			}
		}
	})
	if len(seen) != 19 {
		t.Errorf("not all is tried: %d kinds of wants: %v", len(seen), seen)
	}
	for _, s := range []int{api.Halted, api.Spent, api.Faulty} {
		if states[s] < 20 {
			t.Errorf("not all is tried: %v", states)
		}
	}
}

// shown is a listing of words, for what a test says.
func shown(w []uint32) string {
	list, _, _ := code.List(w)
	return listing(list...)
}

// replayed is Replay by the chapter's tables.
func replayed(w []uint32, reads []uint64, wins []bool, fuel int) api.Run {
	p := paperOf(w)
	end := func(state, loc int) api.Run {
		r := p.told()
		r.State, r.Loc = state, loc
		return r
	}
	for done := 0; ; done++ {
		if done == fuel { // what comes next is looked at, but not done
			ahead := paperOf(w)
			*ahead = *p
			ahead.x, ahead.hang = map[int]uint64{}, map[int][]int{}
			for n, v := range p.x {
				ahead.x[n] = v
			}
			if j := ahead.comes(); j != nil && j.want == wantFault {
				return end(api.Faulty, 0)
			}
			return end(api.Spent, 0)
		}
		j := p.comes()
		for first := true; j != nil && (first || p.late != nil); j = p.late {
			first = false
			state, loc := stateFor(j.want)
			v := uint64(0)
			switch {
			case state == api.Hungry && p.run.Used < len(reads):
				v = reads[p.run.Used]
			case state == api.Undecided && len(wins) > 0:
				if wins[0] {
					v = 1
				}
				wins = wins[1:]
			case state != 0:
				return end(state, loc)
			}
			p.do(j, v)
		}
	}
}

// Replay is what the chapter says, whatever is handed in.
func TestP16_5MadeRuns(t *testing.T) {
	states := map[int]int{}
	eachMade(t, 16200, 4000, func(m maker, what string, w []uint32) {
		reads, wins, fuel := m.values(m.roll(12)), m.wins(m.roll(5)), m.roll(60)
		switch m.roll(6) {
		case 0:
			fuel = 1000
		case 1:
			fuel = m.roll(8)
		}
		what = fmt.Sprintf("P16.5: %s, reads %v, wins %v, fuel %d\n%s", what, reads, wins, fuel, shown(w))
		want := replayed(w, reads, wins, fuel)
		if got := replay(t, w, reads, wins, fuel); !sameRun(got, want) {
			t.Fatalf("%s%+v; want %+v", what, got, want)
		}
		states[want.State]++
	})
	for _, s := range []int{api.Halted, api.Hungry, api.Undecided, api.Spent, api.Faulty} {
		if states[s] < 50 {
			t.Errorf("not all is tried: %v", states)
		}
	}
}

// Lists of events, of whatever operations, up to as many as there may be.
func TestP16_2MadeLong(t *testing.T) {
	ends := map[api.Want]int{}
	eachMade(t, 16300, 150, func(m maker, what string, w []uint32) {
		list, _, _ := code.List(w)
		list = slices.DeleteFunc(list, func(i api.Ins) bool {
			return i.Op == code.Hlt || i.Op == code.B || i.Op == code.Bcond || i.Op == code.Cbz || i.Op == code.Cbnz
		})
		list = append(list, api.Ins{Op: code.Cbz, Rd: 29, Imm: -int64(len(list) - 3)})
		w, _, e := code.Words(list)
		if e != api.OK {
			t.Fatal(e)
		}
		p, x := paperOf(w), made(t, w)
		for {
			want := p.next().want
			if got := x.Next(); got != want {
				t.Fatalf("P16.2: %s: wants %+v, not %+v\n%s", what, got, want, shown(w))
			}
			v := pick(m.roll, []uint64{0, 0, 1, 1, 8})
			if x.Feed(v) != p.feed(v) {
				t.Fatalf("P16.3: %s: fed %d: not as it should be\n%s", what, v, shown(w))
			}
			if refuses(want, v) && !want.Ex {
				run := p.told()
				run.State, run.Loc = stateFor(want)
				holdRun(t, "P16.4: "+what, x.Run(), run)
				ends[want]++
				return
			}
		}
	})
	if ends[wantFuel] < 50 {
		t.Errorf("not all is tried: %v", ends)
	}
}
