package asm

import (
	"slices"
	"strconv"
	"strings"

	"sextant/api"
	"sextant/code"
)

// mnemonics are the names of instructions, each with the stems of those that it may be: what the name alone tells of them.
func mnemonics() map[string][]api.Ins {
	all := map[string][]api.Ins{
		"movz": {{Op: code.Movz}}, "movk": {{Op: code.Movk}},
		"add": {{Op: code.Add}, {Op: code.Addi}}, "sub": {{Op: code.Sub}, {Op: code.Subi}},
		"and": {{Op: code.And}}, "orr": {{Op: code.Orr}}, "eor": {{Op: code.Eor}}, "orn": {{Op: code.Orn}},
		"mul": {{Op: code.Mul}},
		"lsl": {{Op: code.Lsl}, {Op: code.Lsli}}, "lsr": {{Op: code.Lsr}, {Op: code.Lsri}},
		"cmp": {{Op: code.Cmp}}, "cset": {{Op: code.Cset}},
		"b": {{Op: code.B}}, "cbz": {{Op: code.Cbz}}, "cbnz": {{Op: code.Cbnz}},
		"ldr": {{Op: code.Ldr}}, "str": {{Op: code.Str}},
		"ldar": {{Op: code.Ldar}}, "stlr": {{Op: code.Stlr}}, "ldapr": {{Op: code.Ldapr}},
		"ldxr": {{Op: code.Ldxr}}, "ldaxr": {{Op: code.Ldaxr}},
		"stxr": {{Op: code.Stxr}}, "stlxr": {{Op: code.Stlxr}},
		"dmb": {{Op: code.DmbLd}, {Op: code.DmbSy}},
		"nop": {{Op: code.Nop}}, "svc": {{Op: code.Svc}}, "hlt": {{Op: code.Hlt}},
		"cas": {{Op: code.Cas}}, "casa": {{Op: code.Casa}},
		"casl": {{Op: code.Casl}}, "casal": {{Op: code.Casal}},
		"swp": {{Op: code.Swp}}, "swpa": {{Op: code.Swpa}},
		"swpl": {{Op: code.Swpl}}, "swpal": {{Op: code.Swpal}},
		"ldadd": {{Op: code.Ldadd}}, "ldadda": {{Op: code.Ldadda}},
		"ldaddl": {{Op: code.Ldaddl}}, "ldaddal": {{Op: code.Ldaddal}},
	}
	for n, c := range conditions() {
		all["b."+c] = []api.Ins{{Op: code.Bcond, Cond: n}}
	}
	return all
}

// patterns tells how an operation's operands stand behind its name, the shortest ones first. In a pattern a name with a capital letter is a place, where something of the instruction stands; all else stands for itself.
func patterns(op int) []string {
	switch op {
	case code.Movz, code.Movk:
		return []string{"Rd, Imm", "Rd, Imm, lsl Part"}
	case code.Add, code.Sub, code.And, code.Orr, code.Eor, code.Orn, code.Mul, code.Lsl, code.Lsr:
		return []string{"Rd, Rn, Rm"}
	case code.Addi, code.Subi, code.Lsli, code.Lsri:
		return []string{"Rd, Rn, Imm"}
	case code.Cmp:
		return []string{"Rn, Rm"}
	case code.Cset:
		return []string{"Rd, Cond"}
	case code.B, code.Bcond:
		return []string{"Target"}
	case code.Cbz, code.Cbnz:
		return []string{"Rd, Target"}
	case code.Ldr, code.Str:
		return []string{"Rd, [Rn]", "Rd, [Rn, Imm]"}
	case code.Ldar, code.Stlr, code.Ldxr, code.Ldaxr, code.Ldapr:
		return []string{"Rd, [Rn]"}
	case code.Stxr, code.Stlxr:
		return []string{"Status, Rd, [Rn]"}
	case code.DmbLd:
		return []string{"ld"}
	case code.DmbSy:
		return []string{"sy"}
	case code.Nop:
		return []string{""}
	case code.Svc, code.Hlt:
		return []string{"Imm"}
	}
	return []string{"Rm, Rd, [Rn]"}
}

// conditions are the names of them, by their numbers.
func conditions() [code.Le + 1]string {
	return [...]string{
		code.Eq: "eq", code.Ne: "ne", code.Hs: "hs", code.Lo: "lo", code.Mi: "mi", code.Pl: "pl", code.Vs: "vs",
		code.Vc: "vc", code.Hi: "hi", code.Ls: "ls", code.Ge: "ge", code.Lt: "lt", code.Gt: "gt", code.Le: "le",
	}
}

func conditionOf(text string) (int, bool) {
	all := conditions()
	n := slices.Index(all[:], text)
	return n, n >= 0
}

func registerName(n int) string {
	if n == code.Zero {
		return "xzr"
	}
	return "x" + strconv.Itoa(n)
}

func registerOf(text string) (int, bool) {
	if text == "xzr" {
		return code.Zero, true
	}
	return numbered(text, "x")
}

func statusName(n int) string { return "w" + strconv.Itoa(n) }

func statusOf(text string) (int, bool) { return numbered(text, "w") }

// numbered tells the number of a register that is told by a letter and its number, and not by any other digits.
func numbered(text, letter string) (int, bool) {
	digits, ok := strings.CutPrefix(text, letter)
	n, err := strconv.Atoi(digits)
	return n, ok && err == nil && n < code.Zero && strconv.Itoa(n) == digits
}
