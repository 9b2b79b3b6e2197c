package cpu

import (
	"sextant/api"
	"sextant/code"
)

// step does the next instruction, which is the machine's own.
func (m *Machine) step() {
	m.own++
	i := m.list[m.place]
	switch i.Op {
	case code.B:
		m.branch(i, true, taints{})
	case code.Bcond:
		m.branch(i, m.flags.hold(i.Cond), m.flagged)
	case code.Cbz:
		m.branch(i, m.regs[i.Rd] == 0, m.taints[i.Rd])
	case code.Cbnz:
		m.branch(i, m.regs[i.Rd] != 0, m.taints[i.Rd])
	case code.Stxr, code.Stlxr:
		m.end(i, false)
	default:
		m.work(i)
		m.place++
	}
}

// branch hangs the way on what decides, wherever it leads.
func (m *Machine) branch(i api.Ins, taken bool, by taints) {
	m.way = m.way.with(by)
	if taken {
		m.place += int(i.Imm)
	} else {
		m.place++
	}
}

// work does an instruction behind which the next one comes.
func (m *Machine) work(i api.Ins) {
	n, k := m.regs[i.Rn], m.regs[i.Rm]
	ofTwo := m.taints[i.Rn].with(m.taints[i.Rm])
	switch i.Op {
	case code.Nop:
	case code.Movz:
		m.put(i.Rd, uint64(i.Imm)<<(16*i.Cond), taints{})
	case code.Movk:
		others := m.regs[i.Rd] &^ (0xffff << (16 * i.Cond))
		m.put(i.Rd, others|uint64(i.Imm)<<(16*i.Cond), m.taints[i.Rd])
	case code.Cmp:
		m.flags, m.flagged = flagsOf(n, k), ofTwo
	case code.Cset:
		m.put(i.Rd, truth(m.flags.hold(i.Cond)), m.flagged)
	case code.Addi, code.Subi, code.Lsli, code.Lsri:
		m.put(i.Rd, operate(i.Op, n, uint64(i.Imm)), m.taints[i.Rn])
	default:
		m.put(i.Rd, operate(i.Op, n, k), ofTwo)
	}
}

// operate is what an operation of two numbers makes.
func operate(op int, a, b uint64) uint64 {
	switch op {
	case code.Add, code.Addi:
		return a + b
	case code.Sub, code.Subi:
		return a - b
	case code.And:
		return a & b
	case code.Orr:
		return a | b
	case code.Eor:
		return a ^ b
	case code.Orn:
		return a | ^b
	case code.Mul:
		return a * b
	case code.Lsl, code.Lsli:
		return a << (b % 64)
	}
	return a >> (b % 64) // Lsr, Lsri
}

func truth(is bool) uint64 {
	if is {
		return 1
	}
	return 0
}
