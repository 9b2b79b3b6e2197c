package code_test

import (
	"sextant/api"
	"sextant/code"
)

// line is an operation as the architecture's manual writes it: 32 bits, the highest first. 0 and 1 stand for themselves; D, N and M are a register's bits (d, n and m: of one that is not 31), I those of Imm, E of an eighth of it, C of Cond, T of Cond with its lowest bit turned, R and S of 64 and of 63 less Imm. A letter's first one is its highest bit.
type line struct {
	op          int
	name, bits  string
	least, most int64 // Imm's range
	conds       int64 // the greatest Cond
}

const (
	near = 1 << 18
	far  = 1 << 25
)

func lines() []line {
	return []line{
		{code.Movz, "Movz", "110100101CCIIIIIIIIIIIIIIIIDDDDD", 0, 65535, 3},
		{code.Movk, "Movk", "111100101CCIIIIIIIIIIIIIIIIDDDDD", 0, 65535, 3},
		{code.Add, "Add", "10001011000MMMMM000000NNNNNDDDDD", 0, 0, 0},
		{code.Sub, "Sub", "11001011000MMMMM000000NNNNNDDDDD", 0, 0, 0},
		{code.And, "And", "10001010000MMMMM000000NNNNNDDDDD", 0, 0, 0},
		{code.Orr, "Orr", "10101010000MMMMM000000NNNNNDDDDD", 0, 0, 0},
		{code.Eor, "Eor", "11001010000MMMMM000000NNNNNDDDDD", 0, 0, 0},
		{code.Orn, "Orn", "10101010001MMMMM000000NNNNNDDDDD", 0, 0, 0},
		{code.Mul, "Mul", "10011011000MMMMM011111NNNNNDDDDD", 0, 0, 0},
		{code.Lsl, "Lsl", "10011010110MMMMM001000NNNNNDDDDD", 0, 0, 0},
		{code.Lsr, "Lsr", "10011010110MMMMM001001NNNNNDDDDD", 0, 0, 0},
		{code.Addi, "Addi", "1001000100IIIIIIIIIIIInnnnnddddd", 0, 4095, 0},
		{code.Subi, "Subi", "1101000100IIIIIIIIIIIInnnnnddddd", 0, 4095, 0},
		{code.Lsli, "Lsli", "1101001101RRRRRRSSSSSSNNNNNDDDDD", 1, 63, 0},
		{code.Lsri, "Lsri", "1101001101IIIIII111111NNNNNDDDDD", 0, 63, 0},
		{code.Cmp, "Cmp", "11101011000MMMMM000000NNNNN11111", 0, 0, 0},
		{code.Cset, "Cset", "1001101010011111TTTT0111111DDDDD", 0, 0, 13},
		{code.B, "B", "000101IIIIIIIIIIIIIIIIIIIIIIIIII", -far, far - 1, 0},
		{code.Bcond, "Bcond", "01010100IIIIIIIIIIIIIIIIIII0CCCC", -near, near - 1, 13},
		{code.Cbz, "Cbz", "10110100IIIIIIIIIIIIIIIIIIIDDDDD", -near, near - 1, 0},
		{code.Cbnz, "Cbnz", "10110101IIIIIIIIIIIIIIIIIIIDDDDD", -near, near - 1, 0},
		{code.Ldr, "Ldr", "1111100101EEEEEEEEEEEEnnnnnDDDDD", 0, 32760, 0},
		{code.Str, "Str", "1111100100EEEEEEEEEEEEnnnnnDDDDD", 0, 32760, 0},
		{code.Ldar, "Ldar", "1100100011011111111111nnnnnDDDDD", 0, 0, 0},
		{code.Stlr, "Stlr", "1100100010011111111111nnnnnDDDDD", 0, 0, 0},
		{code.Ldxr, "Ldxr", "1100100001011111011111nnnnnDDDDD", 0, 0, 0},
		{code.Ldaxr, "Ldaxr", "1100100001011111111111nnnnnDDDDD", 0, 0, 0},
		{code.Stxr, "Stxr", "11001000000mmmmm011111nnnnnDDDDD", 0, 0, 0},
		{code.Stlxr, "Stlxr", "11001000000mmmmm111111nnnnnDDDDD", 0, 0, 0},
		{code.DmbLd, "DmbLd", "11010101000000110011110110111111", 0, 0, 0},
		{code.DmbSy, "DmbSy", "11010101000000110011111110111111", 0, 0, 0},
		{code.Nop, "Nop", "11010101000000110010000000011111", 0, 0, 0},
		{code.Svc, "Svc", "11010100000" + "00000000000IIIII00001", 0, 30, 0},
		{code.Hlt, "Hlt", "11010100010" + "000000000000000000000", 0, 0, 0},
		{code.Ldapr, "Ldapr", "1111100010111111110000nnnnnDDDDD", 0, 0, 0},
		{code.Cas, "Cas", "11001000101mmmmm011111nnnnnDDDDD", 0, 0, 0},
		{code.Casa, "Casa", "11001000111mmmmm011111nnnnnDDDDD", 0, 0, 0},
		{code.Casl, "Casl", "11001000101mmmmm111111nnnnnDDDDD", 0, 0, 0},
		{code.Casal, "Casal", "11001000111mmmmm111111nnnnnDDDDD", 0, 0, 0},
		{code.Swp, "Swp", "11111000001MMMMM100000nnnnnddddd", 0, 0, 0},
		{code.Swpa, "Swpa", "11111000101MMMMM100000nnnnnddddd", 0, 0, 0},
		{code.Swpl, "Swpl", "11111000011MMMMM100000nnnnnddddd", 0, 0, 0},
		{code.Swpal, "Swpal", "11111000111MMMMM100000nnnnnddddd", 0, 0, 0},
		{code.Ldadd, "Ldadd", "11111000001MMMMM000000nnnnnddddd", 0, 0, 0},
		{code.Ldadda, "Ldadda", "11111000101MMMMM000000nnnnnddddd", 0, 0, 0},
		{code.Ldaddl, "Ldaddl", "11111000011MMMMM000000nnnnnddddd", 0, 0, 0},
		{code.Ldaddal, "Ldaddal", "11111000111MMMMM000000nnnnnddddd", 0, 0, 0},
	}
}

func (l line) has(letter byte) bool {
	for n := range l.bits {
		if l.bits[n] == letter {
			return true
		}
	}
	return false
}

// register tells whether a register's field may be so, where big and small are its letters.
func (l line) register(n int, big, small byte) bool {
	switch {
	case l.has(big):
		return n >= 0 && n <= 31
	case l.has(small):
		return n >= 0 && n <= 30
	}
	return n == 0
}

// fits is P14.1's Fits by the line; a field without letters has the range from 0 to 0.
func (l line) fits(i api.Ins) bool {
	if i.Op != l.op || !l.register(i.Rd, 'D', 'd') || !l.register(i.Rn, 'N', 'n') || !l.register(i.Rm, 'M', 'm') {
		return false
	}
	if i.Imm < l.least || i.Imm > l.most || l.has('E') && i.Imm%8 != 0 || i.Cond < 0 || int64(i.Cond) > l.conds {
		return false
	}
	return i.Op != code.Stxr && i.Op != code.Stlxr || i.Rm != i.Rd && i.Rm != i.Rn
}

// word is the line with each letter's bits in their places, from the lowest one on.
func (l line) word(i api.Ins) (w uint32) {
	left := map[byte]int64{
		'D': int64(i.Rd), 'd': int64(i.Rd), 'N': int64(i.Rn), 'n': int64(i.Rn), 'M': int64(i.Rm), 'm': int64(i.Rm),
		'I': i.Imm, 'E': i.Imm / 8, 'R': 64 - i.Imm, 'S': 63 - i.Imm,
		'C': int64(i.Cond), 'T': int64(i.Cond) + 1 - 2*(int64(i.Cond)%2), '0': 0, '1': -1,
	}
	for n := range 32 {
		letter := l.bits[31-n]
		w |= uint32(left[letter]&1) << n
		left[letter] >>= 1
	}
	return w
}

// table is the lines with what of their bits is fixed.
type table []struct {
	line
	mask, fixed uint32
}

func newTable() table {
	t := table{}
	for _, l := range lines() {
		mask, fixed := uint32(0), uint32(0)
		for n := range 32 {
			switch l.bits[31-n] {
			case '1':
				fixed |= 1 << n
				fallthrough
			case '0':
				mask |= 1 << n
			}
		}
		t = append(t, struct {
			line
			mask, fixed uint32
		}{l, mask, fixed})
	}
	return t
}

// gather tells the number that a letter's bits of a word are.
func (l line) gather(w uint32, letter byte) (n int64) {
	for k := range 32 {
		if l.bits[k] == letter {
			n = 2*n + int64(w>>(31-k)&1)
		}
	}
	return n
}

// decode looks for a line that fits, and by which the word is made.
func (t table) decode(w uint32) (found []api.Ins) {
	for _, l := range t {
		if w&l.mask != l.fixed {
			continue
		}
		i := api.Ins{Op: l.op}
		i.Rd = int(l.gather(w, 'D') + l.gather(w, 'd'))
		i.Rn = int(l.gather(w, 'N') + l.gather(w, 'n'))
		i.Rm = int(l.gather(w, 'M') + l.gather(w, 'm'))
		i.Imm = l.gather(w, 'I') + 8*l.gather(w, 'E')
		if l.least < 0 && i.Imm > l.most {
			i.Imm += 2 * l.least
		}
		if l.has('R') {
			i.Imm = 64 - l.gather(w, 'R')
		}
		i.Cond = int(l.gather(w, 'C'))
		if l.has('T') {
			i.Cond = int(l.gather(w, 'T')) ^ 1
		}
		if l.fits(i) && l.word(i) == w {
			found = append(found, i)
		}
	}
	return found
}
