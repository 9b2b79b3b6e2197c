package cpu_test

import (
	"math"
	"slices"
	"testing"

	"sextant/api"
	"sextant/asm"
	"sextant/code"
	"sextant/cpu"
)

// copied is the chapter's A.
const copied = base + "ldr x2, [x1]\ncbnz x2, .+1\nstr x2, [x1, #8]\nsvc #2\nhlt #0\n"

// adding is the chapter's loop of a pair of exclusive instructions.
const adding = base + "l: ldaxr x2, [x1]\nadd x3, x2, #1\nstlxr w4, x3, [x1]\ncbnz x4, l\nhlt #0\n"

// single are the chapter's instructions that read and write.
const single = base + "movz x2, #3\nldadda x2, x3, [x1]\ncasl x3, x2, [x1]\nsvc #3\nhlt #0\n"

// notMade holds a refusal of New and of Replay, and that there is nothing beside it.
func notMade(t *testing.T, what string, w []uint32, want api.Errno) {
	t.Helper()
	if m, e := cpu.New(w); m != nil || e != want {
		t.Errorf("P16.1, R2: %s: %v, %v; want nil, %v", what, m != nil, e, want)
	}
	for _, fuel := range []int{math.MinInt, -1, 0, 9, api.MaxFuel, api.MaxFuel + 1, math.MaxInt} {
		if r, e := cpu.Replay(w, []uint64{1, 2}, []bool{true}, fuel); !isNothing(r) || e != want {
			t.Errorf("P16.5, R2: %s, fuel %d: %+v, %v; want nothing, %v", what, fuel, r, e, want)
		}
	}
}

// Every row of the chapter's examples.
func TestP16_1Examples(t *testing.T) {
	m := machine(t, copied)
	told(t, "A", m, wantLoad(0, api.Plain))
	fed(t, "A", m, 5)
	told(t, "A", m, wantStore(1, 5, api.Plain))
	fed(t, "A", m, 9)
	told(t, "A", m, wantPrint(5))
	fed(t, "A", m, 0)
	told(t, "A", m, wantHalt)
	notFed(t, "A", m, 0)
	holdRun(t, "P16.4: A", m.Run(), api.Run{Events: []api.Event{read(0, 5, api.Plain), write(1, 5, api.Plain)}, Data: pairs(0, 1), Ctrl: pairs(0, 1), Outs: []uint64{5}, State: api.Halted, Used: 1})
}

func TestP16_5Examples(t *testing.T) {
	a := words(t, copied)
	holdRun(t, "P16.5: A", replay(t, a, nil, nil, 100), api.Run{State: api.Hungry})
	one := api.Run{Events: []api.Event{read(0, 5, api.Plain)}, State: api.Spent, Used: 1}
	holdRun(t, "P16.5: A, 5, fuel 3", replay(t, a, []uint64{5}, nil, 3), one)
	two := api.Run{Events: []api.Event{read(0, 5, api.Plain), write(1, 5, api.Plain)}, Data: pairs(0, 1), Ctrl: pairs(0, 1), Outs: []uint64{5}, State: api.Spent, Used: 1}
	holdRun(t, "P16.5: A, 5, fuel 5", replay(t, a, []uint64{5}, nil, 5), two)
	holdRun(t, "P16.5: an address without a cell", replay(t, words(t, "ldxr x2, [x1]\nhlt #0"), nil, nil, 100), api.Run{State: api.Faulty})
	holdRun(t, "P16.5: adding", replay(t, words(t, adding), []uint64{7, 8}, []bool{false, true}, 100), api.Run{
		Events: []api.Event{read(0, 7, api.Acquire), read(0, 8, api.Acquire), write(0, 9, api.Release)},
		Rmw:    pairs(1, 2), Data: pairs(1, 2), State: api.Halted, Used: 2,
	})
	holdRun(t, "P16.5: single", replay(t, words(t, single), []uint64{4, 4}, nil, 100), api.Run{
		Events: []api.Event{read(0, 4, api.Acquire), write(0, 7, api.Plain), read(0, 4, api.Plain), write(0, 3, api.Release)},
		Rmw:    pairs(0, 1, 2, 3), Outs: []uint64{4}, State: api.Halted, Used: 2,
	})
	holdRun(t, "P16.5: single, another value", replay(t, words(t, single), []uint64{4, 7}, nil, 100), api.Run{
		Events: []api.Event{read(0, 4, api.Acquire), write(0, 7, api.Plain), read(0, 7, api.Plain)},
		Rmw:    pairs(0, 1), Outs: []uint64{7}, State: api.Halted, Used: 2,
	})
	m := machine(t, base+"stxr w4, x3, [x1]")
	told(t, "an exclusive store alone", m, wantFault)
	holdReg(t, "an exclusive store alone", m, 4, 1)
}

// As many words as there may be, and one more. What is too long is not looked at.
func TestP16_1HowManyWords(t *testing.T) {
	nop, hlt := words(t, "nop")[0], words(t, "hlt #0")[0]
	full := slices.Repeat([]uint32{nop}, api.MaxWords)
	full[api.MaxWords-1] = hlt
	told(t, "MaxWords words", made(t, full), wantHalt)
	told(t, "MaxWords words without a halt", made(t, slices.Repeat([]uint32{nop}, api.MaxWords)), wantFault)
	notMade(t, "one more", append(full, hlt), api.ELIMIT)
	notMade(t, "one more that is none", append(full, 0), api.ELIMIT)
	notMade(t, "many that are none", make([]uint32, 5*api.MaxWords), api.ELIMIT)
	full[0] = 0
	notMade(t, "one more, the first of which is none", append(full, hlt), api.ELIMIT)
	notMade(t, "MaxWords words, the first of which is none", full, api.EWORD)
	full[0], full[api.MaxWords-1] = nop, 0
	notMade(t, "MaxWords words, the last of which is none", full, api.EWORD)
}

// Words that are no instruction's, alone and among others, reached or not.
func TestP16_1NoInstructions(t *testing.T) {
	a := words(t, copied)
	none := []uint32{0, math.MaxUint32, 0xd4000000, 0xd5033ebf, 0xeb002021, 0xc8037c43, 0xc8027c43, 0xd34000ff, 0x5400000e, 0x5400000f, 0xd40003e1, 0xd4400020, 0xf9400021 | 31<<5, 0xf823805f, 0xc8bf7c41, 0x8b2063e1}
	for _, w := range none {
		if _, e := code.Decode(w); e != api.EWORD {
			t.Fatalf("%08x is an instruction", w)
		}
		notMade(t, "alone", []uint32{w}, api.EWORD)
		for at := range len(a) + 1 {
			notMade(t, "among others", slices.Insert(slices.Clone(a), at, w), api.EWORD)
		}
	}
	for _, status := range []uint32{0xc8037c41 + 2, 0xc803fc41 + 2, 0xc8027c41, 0xc802fc41} { // the status register is the value's, the address's
		notMade(t, "a status that is another register", []uint32{status}, api.EWORD)
	}
	made(t, []uint32{0xc8037c41})
	made(t, nil)
	made(t, []uint32{})
}

// At the beginning all registers are 0, and nothing was done; not even the first instruction.
func TestP16_1Beginning(t *testing.T) {
	for _, text := range []string{"", "nop\n", copied, adding, single, "movz x0, #1\nmovz x30, #1\nhlt #0\n"} {
		m := machine(t, text)
		if registers(m) != [33]uint64{} {
			t.Errorf("P16.1: %q: registers %v", text, registers(m))
		}
		c := m.Clone()
		if registers(c) != [33]uint64{} {
			t.Errorf("P16.1: %q: a clone's registers %v", text, registers(c))
		}
	}
}

// Reg of numbers that are no register's, and of the ends, whatever the registers hold.
func TestP16_1Reg(t *testing.T) {
	text := ""
	for n := range 32 {
		text += set(n, uint64(n+1)<<40)
	}
	m := machine(t, text+"hlt #0\n")
	told(t, "all set", m, wantHalt)
	for n := range 31 {
		holdReg(t, "all set", m, n, uint64(n+1)<<40)
	}
	for _, n := range []int{-1, 31, 32, -31, 63, 1 << 32, -1 << 32, 1<<32 + 5, math.MinInt, math.MaxInt} {
		holdReg(t, "all set", m, n, 0)
		holdReg(t, "at first", machine(t, text), n, 0)
	}
}

// Reg tells what was done by Next and Feed, and does nothing.
func TestP16_1RegDoesNothing(t *testing.T) {
	m := machine(t, "movz x5, #7\nsvc #5\nmovz x5, #8\nsvc #5\nmovz x5, #9\nhlt #0")
	holdReg(t, "ahead of Next", m, 5, 0)
	told(t, "the first", m, wantPrint(7))
	holdReg(t, "behind Next", m, 5, 7)
	fed(t, "the first", m, 0)
	holdReg(t, "behind Feed", m, 5, 7)
	m.Run()
	m.Clone().Next()
	holdReg(t, "behind Run, and a clone's Next", m, 5, 7)
	fed(t, "the second", m, 0)
	holdReg(t, "behind Feed without Next", m, 5, 8)
	notFed(t, "the end", m, 0)
	holdReg(t, "at the end", m, 5, 9)
}

// A clone has been through the same; then each goes its own way.
func TestP16_1Clone(t *testing.T) {
	text := base + "ldaxr x2, [x1]\nadd x3, x2, #1\ncmp x2, xzr\nstlxr w4, x3, [x1]\nb.eq .+2\ncset x5, hi\nstr x5, [x1, #16]\nsvc #3\nldaddal x2, x6, [x1]\nswp x3, x7, [x1]\nhlt #0"
	feeds := []uint64{6, 1, 0, 0, 9, 2, 4, 4}
	for at := range len(feeds) + 1 {
		for _, asked := range []bool{false, true} {
			m, same := machine(t, text), machine(t, text)
			fed(t, text, m, feeds[:at]...)
			fed(t, text, same, feeds[:at]...)
			if asked {
				m.Next()
				same.Next()
			}
			c := m.Clone()
			if registers(c) != registers(m) {
				t.Fatalf("P16.1: cloned behind %d: %v, want %v", at, registers(c), registers(m))
			}
			holdRun(t, "P16.1: a clone", c.Run(), same.Run())
			for _, v := range feeds[at:] { // another way, as far as it may
				m.Feed(v ^ 1)
			}
			holdRun(t, "P16.1: a clone, its machine gone on", c.Run(), same.Run())
			if c.Next() != same.Next() || registers(c) != registers(same) {
				t.Fatalf("P16.1: cloned behind %d: it wants %+v; %+v", at, c.Next(), same.Next())
			}
			other := m.Run()
			fed(t, text, c, feeds[at:]...)
			fed(t, text, same, feeds[at:]...)
			told(t, "a clone at the end", c, wantHalt)
			holdRun(t, "P16.1: a clone at the end", c.Run(), same.Run())
			holdRun(t, "P16.1: its machine", m.Run(), other)
			if registers(c) != registers(same) {
				t.Fatalf("P16.1: cloned behind %d: %v, want %v", at, registers(c), registers(same))
			}
		}
	}
}

// Clones made behind any number of outputs and of events: each keeps its own.
func TestP16_1ClonesKeepTheirOwn(t *testing.T) {
	text := base + "l: ldr x2, [x1]\nsvc #2\nb l"
	for n := range 20 {
		m, as := machine(t, text), machine(t, text)
		for v := range uint64(n) {
			fed(t, text, m, v, 0)
			fed(t, text, as, v, 0)
		}
		c := m.Clone()
		fed(t, text, m, 70, 0)
		fed(t, text, c, 80, 0)
		fed(t, text, m, 71, 0)
		fed(t, text, as, 70, 0, 71, 0)
		holdRun(t, "P16.1: a machine whose clone goes on", m.Run(), as.Run())
		r := c.Run()
		if len(r.Outs) != n+1 || r.Outs[n] != 80 || len(r.Events) != n+1 || r.Events[n].Val != 80 {
			t.Errorf("P16.1: a clone behind %d outputs: %+v", n, r)
		}
	}
}

// A clone made between the load and the store of one instruction, both ways.
func TestP16_1CloneInASingle(t *testing.T) {
	for _, op := range []string{"swpal x2, x3, [x1]", "ldaddal x2, x3, [x1]", "casal x3, x2, [x1]"} {
		m := machine(t, base+set(2, 9)+op+"\nhlt #0")
		fed(t, op, m, 0)
		c := m.Clone()
		want := one(wantStore(0, 9, api.Release))
		told(t, op, m, want)
		told(t, op, c, want)
		fed(t, op, m, 5)
		told(t, op, m, wantHalt)
		told(t, op, c, want)
		fed(t, op, c, 6)
		told(t, op, c, wantHalt)
		holdRun(t, "P16.1: "+op, c.Run(), m.Run())
	}
}

// set is a listing that puts a number into a register, and reads nothing.
func set(register int, v uint64) string {
	list := []api.Ins{{Op: code.Movz, Rd: register, Imm: int64(v & 0xffff)}}
	for at := 1; at < 4; at++ {
		if part := v >> (16 * at) & 0xffff; part != 0 {
			list = append(list, api.Ins{Op: code.Movk, Rd: register, Imm: int64(part), Cond: at})
		}
	}
	return listing(list...)
}

// listing tells instructions.
func listing(list ...api.Ins) string {
	w, at, e := code.Words(list)
	if e != api.OK {
		panic(list[at])
	}
	text, _, e := asm.Print(w)
	if e != api.OK {
		panic(e)
	}
	return text
}
