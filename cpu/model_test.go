package cpu_test

import (
	"math/big"
	"slices"
	"strings"

	"sextant/api"
	"sextant/code"
)

// paper is a thread of words, played by the chapter's tables.
type paper struct {
	list  []api.Ins
	place int
	x     map[int]uint64 // what the registers hold, but 31
	hang  map[int][]int  // their taints, those of flags and of way too: reads by their numbers, rising
	holds string         // the conditions that do
	open  int            // the cell for which the monitor is open; -1: it is closed
	by    int            // the read that opened it
	own   int
	late  *job // the store of an instruction that has loaded
	run   api.Run
}

// Beside the registers' own numbers.
const (
	flags = 100
	way   = 101
)

// job is what an instruction that is not the machine's own does.
type job struct {
	want       api.Want
	addr, data []int
	into       int  // the register that gets what is read; that of no job is 31
	status     int  // likewise, that of an exclusive store
	then       *job // behind the load of one instruction
	pair       int  // with which read this makes a pair; -1: none
}

// Conditions as they hold of two numbers, by their names in the order of their numbers.
func holding(a, b uint64) string {
	d := new(big.Int).Sub(big.NewInt(int64(a)), big.NewInt(int64(b)))
	s, u := big.NewInt(int64(a)).Cmp(big.NewInt(int64(b))), new(big.Int).SetUint64(a).Cmp(new(big.Int).SetUint64(b))
	fits := d.IsInt64()
	low := int64(a-b) < 0
	var out []string
	for _, c := range []struct {
		name string
		is   bool
	}{
		{"eq", u == 0}, {"ne", u != 0}, {"hs", u >= 0}, {"lo", u < 0}, {"mi", low}, {"pl", !low}, {"vs", !fits}, {"vc", fits},
		{"hi", u > 0}, {"ls", u <= 0}, {"ge", s >= 0}, {"lt", s < 0}, {"gt", s > 0}, {"le", s <= 0},
	} {
		if c.is {
			out = append(out, c.name)
		}
	}
	return strings.Join(out, " ")
}

var condNames = strings.Fields("eq ne hs lo mi pl vs vc hi ls ge lt gt le")

// paperOf is one ahead of its first word. The flags are unset.
func paperOf(words []uint32) *paper {
	p := &paper{x: map[int]uint64{}, hang: map[int][]int{}, open: -1, holds: "ne lo pl vc ls ge gt"}
	for _, w := range words {
		i, e := code.Decode(w)
		if e != api.OK {
			panic(w)
		}
		p.list = append(p.list, i)
	}
	return p
}

// joined are the numbers in any of the lists.
func joined(lists ...[]int) []int {
	out := slices.Concat(lists...)
	slices.Sort(out)
	return slices.Compact(out)
}

func (p *paper) put(register int, v uint64, by ...[]int) {
	if register == 31 {
		return
	}
	p.x[register], p.hang[register] = v, joined(by...)
}

// modelTwo is what an operation makes of two numbers.
func modelTwo(op int, a, b uint64) uint64 {
	x, y, z := new(big.Int).SetUint64(a), new(big.Int).SetUint64(b), new(big.Int)
	most := new(big.Int).SetUint64(top)
	switch op {
	case code.Add, code.Addi:
		z.Add(x, y)
	case code.Sub, code.Subi:
		z.Sub(x, y)
	case code.Mul:
		z.Mul(x, y)
	case code.And:
		z.And(x, y)
	case code.Orr:
		z.Or(x, y)
	case code.Eor:
		z.Xor(x, y)
	case code.Orn:
		z.Or(x, new(big.Int).Sub(most, y))
	case code.Lsl, code.Lsli:
		z.Mul(x, new(big.Int).Exp(big.NewInt(2), big.NewInt(int64(b%64)), nil))
	case code.Lsr, code.Lsri:
		z.Div(x, new(big.Int).Exp(big.NewInt(2), big.NewInt(int64(b%64)), nil))
	}
	return z.And(z, most).Uint64()
}

// alone does an instruction that is the machine's own, whatever it is, but an exclusive store.
func (p *paper) alone(i api.Ins) {
	next := p.place + 1
	a, b := p.x[i.Rn], p.x[i.Rm]
	switch i.Op {
	case code.Nop:
	case code.Movz:
		p.put(i.Rd, uint64(i.Imm)*[]uint64{1, 1 << 16, 1 << 32, 1 << 48}[i.Cond])
	case code.Movk:
		v := p.x[i.Rd]
		parts := []uint64{v & 0xffff, v >> 16 & 0xffff, v >> 32 & 0xffff, v >> 48}
		parts[i.Cond] = uint64(i.Imm)
		p.put(i.Rd, parts[0]+parts[1]<<16+parts[2]<<32+parts[3]<<48, p.hang[i.Rd])
	case code.Addi, code.Subi, code.Lsli, code.Lsri:
		p.put(i.Rd, modelTwo(i.Op, a, uint64(i.Imm)), p.hang[i.Rn])
	case code.Cmp:
		p.holds, p.hang[flags] = holding(a, b), joined(p.hang[i.Rn], p.hang[i.Rm])
	case code.Cset:
		v := uint64(0)
		if p.condition(i) {
			v = 1
		}
		p.put(i.Rd, v, p.hang[flags])
	case code.B:
		next = p.place + int(i.Imm)
	case code.Bcond:
		p.hang[way] = joined(p.hang[way], p.hang[flags])
		if p.condition(i) {
			next = p.place + int(i.Imm)
		}
	case code.Cbz, code.Cbnz:
		p.hang[way] = joined(p.hang[way], p.hang[i.Rd])
		if (p.x[i.Rd] == 0) == (i.Op == code.Cbz) {
			next = p.place + int(i.Imm)
		}
	default:
		p.put(i.Rd, modelTwo(i.Op, a, b), p.hang[i.Rn], p.hang[i.Rm])
	}
	p.place = next
}

func (p *paper) condition(i api.Ins) bool {
	return slices.Contains(strings.Fields(p.holds), condNames[i.Cond])
}

// access is what the chapter's second table says of an operation that reads or writes.
type access struct {
	read, write int // the modes; 0: it does not
	exclusive   bool
	what        byte // of one that does both: c(ompares), s(waps), a(dds)
}

var accesses = map[int]access{
	code.Ldr:     {read: api.Plain},
	code.Ldar:    {read: api.Acquire},
	code.Ldapr:   {read: api.AcquirePC},
	code.Ldxr:    {read: api.Plain, exclusive: true},
	code.Ldaxr:   {read: api.Acquire, exclusive: true},
	code.Str:     {write: api.Plain},
	code.Stlr:    {write: api.Release},
	code.Stxr:    {write: api.Plain, exclusive: true},
	code.Stlxr:   {write: api.Release, exclusive: true},
	code.Cas:     {read: api.Plain, write: api.Plain, what: 'c'},
	code.Casa:    {read: api.Acquire, write: api.Plain, what: 'c'},
	code.Casl:    {read: api.Plain, write: api.Release, what: 'c'},
	code.Casal:   {read: api.Acquire, write: api.Release, what: 'c'},
	code.Swp:     {read: api.Plain, write: api.Plain, what: 's'},
	code.Swpa:    {read: api.Acquire, write: api.Plain, what: 's'},
	code.Swpl:    {read: api.Plain, write: api.Release, what: 's'},
	code.Swpal:   {read: api.Acquire, write: api.Release, what: 's'},
	code.Ldadd:   {read: api.Plain, write: api.Plain, what: 'a'},
	code.Ldadda:  {read: api.Acquire, write: api.Plain, what: 'a'},
	code.Ldaddl:  {read: api.Plain, write: api.Release, what: 'a'},
	code.Ldaddal: {read: api.Acquire, write: api.Release, what: 'a'},
}

// cell is the one of an address: -1, if it has none.
func cell(address uint64) int {
	for range 1 {
		if address < api.Base || address%8 != 0 {
			break
		}
		if n := (address - api.Base) / 8; n < api.MaxCells {
			return int(n)
		}
	}
	return -1
}

// comes tells the next job; nil, if the next instruction is the machine's own, and has been done.
func (p *paper) comes() *job {
	if p.late != nil {
		return p.late
	}
	if p.place < 0 || p.place > len(p.list)-1 {
		return &job{want: wantFault}
	}
	i := p.list[p.place]
	switch i.Op {
	case code.Svc:
		return &job{want: wantPrint(p.x[int(i.Imm)])}
	case code.Hlt:
		return &job{want: wantHalt}
	case code.DmbLd:
		return p.counted(1, &job{want: wantFence(api.FenceLd), into: 31, status: 31, pair: -1})
	case code.DmbSy:
		return p.counted(1, &job{want: wantFence(api.FenceSy), into: 31, status: 31, pair: -1})
	}
	a, is := accesses[i.Op]
	if !is {
		return p.mine(func() { p.alone(i) })
	}
	loc := cell(p.x[i.Rn] + uint64(i.Imm))
	if loc < 0 {
		return &job{want: wantFault}
	}
	return p.reached(i, a, loc)
}

// reached is the job of an access of a cell.
func (p *paper) reached(i api.Ins, a access, loc int) *job {
	addr := p.hang[i.Rn]
	number := len(p.run.Events)
	load := &job{want: wantLoad(loc, a.read), addr: addr, into: i.Rd, status: 31, pair: -1}
	store := &job{want: wantStore(loc, p.x[i.Rd], a.write), addr: addr, data: p.hang[i.Rd], into: 31, status: 31, pair: -1}
	load.want.Ex, store.want.Ex = a.exclusive, a.exclusive
	switch {
	case a.write == 0:
		return p.counted(1, load)
	case a.read == 0 && !a.exclusive:
		return p.counted(1, store)
	case a.read == 0 && p.open != loc:
		return p.mine(func() {
			p.put(i.Rm, 1)
			p.open = -1
			p.place++
		})
	case a.read == 0:
		store.status, store.pair = i.Rm, p.by
		return p.counted(1, store)
	}
	load.want.One, store.want.One = true, true
	load.then, store.pair = store, number
	switch a.what {
	case 'c':
		load.into = i.Rm
	default:
		store.want.Val, store.data = p.x[i.Rm], p.hang[i.Rm]
	}
	return p.counted(2, load)
}

// mine does what is the machine's own, if there may be more of that.
func (p *paper) mine(do func()) *job {
	if p.own >= api.MaxFuel {
		return &job{want: wantFuel}
	}
	p.own++
	do()
	return nil
}

// counted is that job, if there may be so many more events.
func (p *paper) counted(more int, j *job) *job {
	if len(p.run.Events) > api.MaxEvents-more {
		return &job{want: wantFuel}
	}
	return j
}

// next is the job that is wanted.
func (p *paper) next() *job {
	for {
		if j := p.comes(); j != nil {
			return j
		}
	}
}

// refuses tells whether a value is not one for that.
func refuses(w api.Want, v uint64) bool {
	return slices.Contains([]api.Want{wantHalt, wantFault, wantFuel}, w) || w.What == api.WantStore && w.Ex && v > 1
}

// feed gives it what it wants.
func (p *paper) feed(v uint64) api.Errno {
	j := p.next()
	if refuses(j.want, v) {
		return api.EARG
	}
	p.do(j, v)
	return api.OK
}

func (p *paper) do(j *job, v uint64) {
	p.own, p.late = 0, nil
	p.place++
	number := len(p.run.Events)
	switch j.want.What {
	case api.WantPrint:
		p.run.Outs = append(p.run.Outs, j.want.Val)
		return
	case api.WantFence:
		p.event(j, barrier(j.want.Mode))
	case api.WantLoad:
		p.event(j, read(j.want.Loc, v, j.want.Mode))
		p.run.Used++
		p.both(j, v)
		p.put(j.into, v, []int{number})
	case api.WantStore:
		if !j.want.Ex || v == 1 {
			p.event(j, write(j.want.Loc, j.want.Val, j.want.Mode))
		}
		p.put(j.status, 1-v)
	}
	p.open = -1
	if j.want.What == api.WantLoad && j.want.Ex {
		p.open, p.by = j.want.Loc, number
	}
}

// both lays the store of an instruction that has loaded a value, ahead of its register's change.
func (p *paper) both(j *job, v uint64) {
	if j.then == nil {
		return
	}
	i := p.list[p.place-1]
	switch accesses[i.Op].what {
	case 'c':
		if p.x[i.Rm] != v {
			return
		}
	case 'a':
		j.then.want.Val += v
	}
	p.late = j.then
	p.place--
}

// event writes one down, with its pairs.
func (p *paper) event(j *job, e api.Event) {
	b := len(p.run.Events)
	p.run.Events = append(p.run.Events, e)
	for _, a := range j.addr {
		p.run.Addr = append(p.run.Addr, api.Pair{A: a, B: b})
	}
	for _, a := range j.data {
		p.run.Data = append(p.run.Data, api.Pair{A: a, B: b})
	}
	for _, a := range p.hang[way] {
		p.run.Ctrl = append(p.run.Ctrl, api.Pair{A: a, B: b})
	}
	if j.pair >= 0 {
		p.run.Rmw = append(p.run.Rmw, api.Pair{A: j.pair, B: b})
	}
}

// told is the run, which does nothing.
func (p *paper) told() api.Run {
	r := p.run
	for _, l := range []*[]api.Pair{&r.Rmw, &r.Addr, &r.Data, &r.Ctrl} {
		*l = slices.Clone(*l)
		slices.SortFunc(*l, func(x, y api.Pair) int { return (x.A-y.A)*api.MaxEvents + x.B - y.B })
	}
	return r
}

// stateFor is the state of a run that wants this, and its cell.
func stateFor(w api.Want) (state, loc int) {
	switch {
	case w == wantHalt:
		return api.Halted, 0
	case w == wantFault:
		return api.Faulty, 0
	case w == wantFuel:
		return api.Spent, 0
	case w.What == api.WantLoad:
		return api.Hungry, w.Loc
	case w.What == api.WantStore && w.Ex:
		return api.Undecided, w.Loc
	}
	return 0, 0
}

func (p *paper) registers() (out [33]uint64) {
	for i := range 31 {
		out[i] = p.x[i]
	}
	return out
}
