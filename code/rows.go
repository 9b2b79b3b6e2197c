package code

import "sextant/api"

// The forms that words have.
const (
	bare      = iota // without fields
	halfWord         // a register and sixteen bits, in one of four places
	ofTwo            // a register of two others
	ofNumber         // a register of another one and a number
	shiftLeft        // a register of another one, shifted by a number
	shiftRight
	compare
	set         // a register by a condition
	jump        // to anywhere
	jumpCond    // by a condition
	jumpZero    // by a register
	atOffset    // memory at a register and a number
	atRegister  // memory at a register
	storeStatus // and a register that tells how it went
	compareSwap
	swapOrAdd
	call
)

// row is an operation: its word with all fields' bits 0, and the form that says where these stand.
type row struct {
	word uint32
	form int
}

// rows has an operation at its number; those without fields are in bareWords. It is made anew each time, as it is too long to stand at package level beside the tables of those who call.
func rows() [Ldaddal + 1]row {
	return [...]row{
		Movz: {0xd2800000, halfWord}, Movk: {0xf2800000, halfWord},
		Add: {0x8b000000, ofTwo}, Sub: {0xcb000000, ofTwo},
		And: {0x8a000000, ofTwo}, Orr: {0xaa000000, ofTwo}, Eor: {0xca000000, ofTwo}, Orn: {0xaa200000, ofTwo},
		Mul: {0x9b007c00, ofTwo}, Lsl: {0x9ac02000, ofTwo}, Lsr: {0x9ac02400, ofTwo},
		Addi: {0x91000000, ofNumber}, Subi: {0xd1000000, ofNumber},
		Lsli: {0xd3400000, shiftLeft}, Lsri: {0xd340fc00, shiftRight},
		Cmp: {0xeb00001f, compare}, Cset: {0x9a9f07e0, set},
		B: {0x14000000, jump}, Bcond: {0x54000000, jumpCond},
		Cbz: {0xb4000000, jumpZero}, Cbnz: {0xb5000000, jumpZero},
		Ldr: {0xf9400000, atOffset}, Str: {0xf9000000, atOffset},
		Ldar: {0xc8dffc00, atRegister}, Stlr: {0xc89ffc00, atRegister},
		Ldxr: {0xc85f7c00, atRegister}, Ldaxr: {0xc85ffc00, atRegister},
		Stxr: {0xc8007c00, storeStatus}, Stlxr: {0xc800fc00, storeStatus},
		Svc:   {0xd4000001, call},
		Ldapr: {0xf8bfc000, atRegister},
		Cas:   {0xc8a07c00, compareSwap}, Casa: {0xc8e07c00, compareSwap},
		Casl: {0xc8a0fc00, compareSwap}, Casal: {0xc8e0fc00, compareSwap},
		Swp: {0xf8208000, swapOrAdd}, Swpa: {0xf8a08000, swapOrAdd},
		Swpl: {0xf8608000, swapOrAdd}, Swpal: {0xf8e08000, swapOrAdd},
		Ldadd: {0xf8200000, swapOrAdd}, Ldadda: {0xf8a00000, swapOrAdd},
		Ldaddl: {0xf8600000, swapOrAdd}, Ldaddal: {0xf8e00000, swapOrAdd},
	}
}

// bareWords has the operations without fields.
func bareWords() map[int]uint32 {
	return map[int]uint32{DmbLd: 0xd5033dbf, DmbSy: 0xd5033fbf, Nop: 0xd503201f, Hlt: 0xd4400000}
}

// rowOf tells the row of an operation, if there is such a one.
func rowOf(op int) (row, bool) {
	if all := rows(); op >= 0 && op < len(all) && all[op].form != bare {
		return all[op], true
	}
	word, ok := bareWords()[op]
	return row{word, bare}, ok
}

// wordOf tells the word of an instruction of the row's operation, if its fields are as the form asks.
func (r row) wordOf(i api.Ins) (uint32, bool) {
	f := forms[r.form]
	if !f.fits(i) {
		return 0, false
	}
	return r.word | f.lay(i), true
}
