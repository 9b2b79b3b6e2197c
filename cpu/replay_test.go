package cpu_test

import (
	"math"
	"slices"
	"testing"

	"sextant/api"
	"sextant/cpu"
)

func TestP16_5WrongFuel(t *testing.T) {
	for _, text := range []string{"", copied, adding, single, "b .+0"} {
		w := words(t, text)
		for _, fuel := range []int{math.MinInt, -api.MaxFuel, -2, -1, api.MaxFuel + 1, api.MaxFuel + 2, 1 << 32, 1<<32 + 5, math.MaxInt} {
			if r, e := cpu.Replay(w, []uint64{1, 2, 3}, []bool{true, false}, fuel); e != api.EARG || !isNothing(r) {
				t.Errorf("P16.5, R2: fuel %d: %+v, %v; want nothing, EARG", fuel, r, e)
			}
		}
		replay(t, w, []uint64{1, 2, 3}, []bool{true, false}, 0)
		replay(t, w, []uint64{1, 2, 3}, []bool{true, false}, api.MaxFuel)
	}
	for _, fuel := range []int{-1, api.MaxFuel + 1} { // the errors of New come first
		if r, e := cpu.Replay([]uint32{0}, nil, nil, fuel); e != api.EWORD || !isNothing(r) {
			t.Errorf("P16.5: a word that is none, fuel %d: %v", fuel, e)
		}
		if r, e := cpu.Replay(make([]uint32, api.MaxWords+1), nil, nil, fuel); e != api.ELIMIT || !isNothing(r) {
			t.Errorf("P16.5: too many words, fuel %d: %v", fuel, e)
		}
	}
}

// Each instruction takes one of the fuel, whatever its kind; one that reads and writes just one, too; a halt one more than there are.
func TestP16_5Fuel(t *testing.T) {
	for _, c := range []struct {
		text   string
		events []api.Event // with all fuel
		outs   []uint64
	}{
		{"nop", nil, nil}, {"movz x5, #1", nil, nil}, {"cmp x5, x6", nil, nil}, {"cset x5, eq", nil, nil}, {"b .+1", nil, nil}, {"b.ne .+1", nil, nil}, {"cbnz x5, .+1", nil, nil}, {"svc #5", nil, []uint64{0}}, {"stxr w5, x6, [x1]", nil, nil},
		{"dmb ld", []api.Event{barrier(api.FenceLd)}, nil}, {"ldr x5, [x1]", []api.Event{read(0, 9, api.Plain)}, nil}, {"ldxr x5, [x1]", []api.Event{read(0, 9, api.Plain)}, nil}, {"str x5, [x1]", []api.Event{write(0, 0, api.Plain)}, nil},
		{"swp x5, x6, [x1]", []api.Event{read(0, 9, api.Plain), write(0, 0, api.Plain)}, nil}, {"ldaddal x5, x6, [x1]", []api.Event{read(0, 9, api.Acquire), write(0, 9, api.Release)}, nil}, {"cas x5, x6, [x1]", []api.Event{read(0, 9, api.Plain)}, nil}, {"orn x5, xzr, xzr\nnop", nil, nil},
	} {
		w := words(t, base+c.text+"\nhlt #0")
		own := len(w) - 2 // but the first and the last one
		want := api.Run{Events: c.events, Outs: c.outs, State: api.Halted}
		for _, e := range c.events {
			if e.Kind == api.Read {
				want.Used = 1
			}
		}
		if len(c.events) == 2 {
			want.Rmw = pairs(0, 1)
		}
		for _, fuel := range []int{own + 2, own + 3, 100, api.MaxFuel} {
			holdRun(t, "P16.5: "+c.text, replay(t, w, []uint64{9, 8}, []bool{true}, fuel), want)
		}
		if r := replay(t, w, []uint64{9, 8}, []bool{true}, own+1); !sameRun(r, spent(want)) { // no fuel for the halt
			t.Errorf("P16.5: %s, no fuel for the halt: %+v", c.text, r)
		}
		for fuel := range own { // none for the last of them
			if r := replay(t, w, []uint64{9, 8}, []bool{true}, 1+fuel); !sameRun(r, api.Run{State: api.Spent}) {
				t.Errorf("P16.5: %s, fuel %d: %+v", c.text, fuel, r)
			}
		}
		holdRun(t, "P16.5: no fuel: "+c.text, replay(t, w, nil, nil, 0), api.Run{State: api.Spent})
	}
}

// spent is a run that would have gone on.
func spent(r api.Run) api.Run {
	r.State, r.Loc = api.Spent, 0
	return r
}

// Between the load and the store of one instruction a run does not end, neither of fuel nor of what is used up.
func TestP16_5Singles(t *testing.T) {
	for _, text := range []string{"swp x5, x6, [x1]", "ldadd x5, x6, [x1]", "cas x5, x6, [x1]"} {
		w := words(t, base+text+"\n"+text+"\nhlt #0")
		two := api.Run{Events: []api.Event{read(0, 0, api.Plain), write(0, 0, api.Plain)}, Rmw: pairs(0, 1), Used: 1}
		holdRun(t, "P16.5: fuel for the first of "+text, replay(t, w, []uint64{0, 0}, nil, 2), spent(two))
		hungry := two
		hungry.State = api.Hungry
		holdRun(t, "P16.5: a value for the first of "+text, replay(t, w, []uint64{0}, nil, 100), hungry)
	}
}

// Which comes first: a fault, then fuel, then a halt or that something is used up.
func TestP16_5WhichFirst(t *testing.T) {
	for _, c := range []struct {
		text       string
		ahead      int // instructions ahead of the end
		state, loc int // with fuel for one more
		noFuel     int // without
	}{
		{"hlt #0", 0, api.Halted, 0, api.Spent}, {"", 0, api.Faulty, 0, api.Faulty}, {"b .-1", 1, api.Faulty, 0, api.Faulty}, {"nop\nhlt #0", 1, api.Halted, 0, api.Spent}, {"nop", 1, api.Faulty, 0, api.Faulty}, {"ldr x5, [x6]", 0, api.Faulty, 0, api.Faulty}, {"stxr w5, x7, [x6]", 0, api.Faulty, 0, api.Faulty}, {"swp x5, x7, [x6]", 0, api.Faulty, 0, api.Faulty},
		{base + "ldr x5, [x1, #24]", 1, api.Hungry, 3, api.Spent}, {base + "ldaxr x5, [x1]", 1, api.Hungry, 0, api.Spent}, {base + "add x1, x1, #16\ncasal x5, x6, [x1]", 2, api.Hungry, 2, api.Spent}, {base + "stxr w5, x6, [x1]\nldr x5, [x1, #8]", 2, api.Hungry, 1, api.Spent},
	} {
		w := words(t, c.text)
		for _, fuel := range []int{c.ahead, c.ahead + 1, c.ahead + 2, api.MaxFuel} {
			want := api.Run{State: c.state, Loc: c.loc}
			if fuel == c.ahead {
				want = api.Run{State: c.noFuel}
			}
			holdRun(t, "P16.5: "+c.text, replay(t, w, nil, []bool{true, true}, fuel), want)
		}
	}
	w := words(t, base+"add x1, x1, #16\nldxr x2, [x1]\nstlxr w4, x3, [x1]\nhlt #0")
	one := api.Run{Events: []api.Event{read(2, 6, api.Plain)}, State: api.Undecided, Loc: 2, Used: 1}
	for _, fuel := range []int{4, 5, api.MaxFuel} {
		holdRun(t, "P16.5: undecided", replay(t, w, []uint64{6, 7, 8}, nil, fuel), one)
	}
	holdRun(t, "P16.5: undecided, without fuel", replay(t, w, []uint64{6, 7, 8}, nil, 3), spent(one))
	holdRun(t, "P16.5: decided", replay(t, w, []uint64{6, 7, 8}, []bool{true, false}, 5), api.Run{Events: []api.Event{read(2, 6, api.Plain), write(2, 0, api.Release)}, Rmw: pairs(0, 1), State: api.Halted, Used: 1})
	holdRun(t, "P16.5: decided, without fuel for the halt", replay(t, w, []uint64{6, 7, 8}, []bool{true, false}, 4), api.Run{Events: []api.Event{read(2, 6, api.Plain), write(2, 0, api.Release)}, Rmw: pairs(0, 1), State: api.Spent, Used: 1})
	holdRun(t, "P16.5: not done", replay(t, w, []uint64{6, 7, 8}, []bool{false}, 5), api.Run{Events: []api.Event{read(2, 6, api.Plain)}, State: api.Halted, Used: 1})
}

// All fuel that there may be: of the machine's own, and of others.
func TestP16_5AllFuel(t *testing.T) {
	for _, c := range []struct {
		text   string
		events int
		outs   int
	}{
		{"b .+0", 0, 0}, {"l: nop\nb l", 0, 0}, {"svc #1\nb .-1", 0, api.MaxFuel / 2}, {"svc #1\nsvc #1\nnop\nb .-3", 0, api.MaxFuel / 2},
		{base + "l: ldr x2, [x1]\nb l", api.MaxEvents, 0}, {"l: dmb sy\nsvc #1\nb l", api.MaxEvents, api.MaxEvents}, {"l: svc #1\ndmb sy\nb l", api.MaxEvents, api.MaxEvents + 1}, {base + "l: swp x2, x3, [x1]\nb l", api.MaxEvents, 0},
	} {
		r := replay(t, words(t, c.text), make([]uint64, api.MaxEvents+1), nil, api.MaxFuel)
		if r.State != api.Spent || r.Loc != 0 || len(r.Events) != c.events || len(r.Outs) != c.outs {
			t.Errorf("P16.5: %s: state %d, %d events, %d outs; want %d, %d", c.text, r.State, len(r.Events), len(r.Outs), c.events, c.outs)
		}
	}
	exact := words(t, counted(api.MaxFuel)+"hlt #0") // Next's own fuel and Replay's end together
	holdRun(t, "P16.5: just all fuel, then a halt", replay(t, exact, nil, nil, api.MaxFuel), api.Run{State: api.Spent})
	holdRun(t, "P16.5: just all fuel, then nothing", replay(t, exact[:len(exact)-1], nil, nil, api.MaxFuel), api.Run{State: api.Faulty})
	less := words(t, counted(api.MaxFuel-1)+"hlt #0")
	holdRun(t, "P16.5: one less, then a halt", replay(t, less, nil, nil, api.MaxFuel), api.Run{State: api.Halted})
	holdRun(t, "P16.5: one less, then a halt, no fuel", replay(t, less, nil, nil, api.MaxFuel-1), api.Run{State: api.Spent})
}

// Each load gets the next value, each exclusive store the next outcome; what is left over makes no difference.
func TestP16_5ValuesInOrder(t *testing.T) {
	w := words(t, base+"add x9, x1, #8\nldr x2, [x1]\nldxr x3, [x9]\nstxr w4, x2, [x9]\nldar x5, [x1]\nswp x5, x6, [x1]\nldapr x7, [x9]\nldaxr x8, [x1]\nstlxr w10, x8, [x1]\nstxr w11, x8, [x1]\nldxr x12, [x1]\nstxr w13, x12, [x1]\nsvc #4\nsvc #6\nsvc #8\nsvc #10\nsvc #11\nsvc #13\nhlt #0")
	want := api.Run{Events: []api.Event{
		read(0, 11, api.Plain), read(1, 12, api.Plain), write(1, 11, api.Plain), read(0, 13, api.Acquire), read(0, 14, api.Plain), write(0, 13, api.Plain), read(1, 15, api.AcquirePC), read(0, 16, api.Acquire), read(0, 17, api.Plain), write(0, 17, api.Plain),
	}, Rmw: pairs(1, 2, 4, 5, 8, 9), Data: pairs(0, 2, 3, 5, 8, 9), Outs: []uint64{0, 14, 16, 1, 1, 0}, State: api.Halted, Used: 7}
	reads, wins := []uint64{11, 12, 13, 14, 15, 16, 17}, []bool{true, false, true}
	for range 3 {
		holdRun(t, "P16.5: in order", replay(t, w, reads, wins, 100), want)
		reads, wins = append(reads, 5), append(wins, false, true)
	}
	for n := range 7 {
		r := replay(t, w, reads[:n], wins, 100)
		if r.State != api.Hungry || r.Used != n || r.Loc != []int{0, 1, 0, 0, 1, 0, 0}[n] {
			t.Errorf("P16.5: %d values: %+v", n, r)
		}
	}
	for n := range 3 {
		r := replay(t, w, reads, wins[:n], 100)
		if r.State != api.Undecided || r.Used != []int{2, 6, 7}[n] || r.Loc != []int{1, 0, 0}[n] || !slices.Equal(r.Events, want.Events[:[]int{2, 8, 9}[n]]) {
			t.Errorf("P16.5: %d outcomes: %+v", n, r)
		}
	}
	holdRun(t, "P16.5: no value, no outcome", replay(t, w, nil, nil, 100), api.Run{State: api.Hungry})
}

// A run that ends for want of fuel, behind which the machine would want too much, at the same instruction.
func TestP16_5EventsAndFuel(t *testing.T) {
	w := words(t, "l: dmb sy\nb l")
	for fuel := range 2*api.MaxEvents + 10 {
		r := replay(t, w, nil, nil, fuel)
		if r.State != api.Spent || r.Loc != 0 || len(r.Events) != min((fuel+1)/2, api.MaxEvents) {
			t.Fatalf("P16.5: fuel %d: state %d, cell %d, %d events", fuel, r.State, r.Loc, len(r.Events))
		}
	}
	w = words(t, base+"l: ldr x2, [x1, #8]\nb l") // all events, and no more values: it is spent, not hungry
	r := replay(t, w, make([]uint64, api.MaxEvents), nil, api.MaxFuel)
	if r.State != api.Spent || r.Loc != 0 || r.Used != api.MaxEvents {
		t.Errorf("P16.5: all events: state %d, cell %d", r.State, r.Loc)
	}
	w = words(t, base+"movz x20, #255\nl: dmb sy\nsub x20, x20, #1\ncbnz x20, l\nldxr x2, [x1]\nstxr w4, x3, [x1]\nhlt #0")
	r = replay(t, w, []uint64{7}, nil, api.MaxFuel)
	if r.State != api.Spent || r.Loc != 0 || len(r.Events) != api.MaxEvents {
		t.Errorf("P16.5: all events, and no outcomes: state %d, cell %d", r.State, r.Loc)
	}
}
