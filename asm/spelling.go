package asm

import (
	"strconv"

	"sextant/api"
)

// spelling is one of the ways in which instructions stand in a listing: the name, its stem, and the pattern of what stands behind it.
type spelling struct {
	name    string
	stem    api.Ins
	pattern []token
}

// spellings are those of each mnemonic.
func spellings() map[string][]spelling {
	all := map[string][]spelling{}
	for mnemonic, stems := range mnemonics() {
		for _, stem := range stems {
			for _, p := range patterns(stem.Op) {
				pattern, _ := cut(p)
				all[mnemonic] = append(all[mnemonic], spelling{mnemonic, stem, pattern})
			}
		}
	}
	return all
}

// tells is whether an instruction has nothing that the spelling has no place for.
func (s spelling) tells(i api.Ins) bool {
	for _, p := range s.pattern {
		switch p.text {
		case "Rd":
			i.Rd = 0
		case "Rn":
			i.Rn = 0
		case "Rm", "Status":
			i.Rm = 0
		case "Imm", "Target":
			i.Imm = 0
		case "Cond", "Part":
			i.Cond = 0
		}
	}
	return i == s.stem
}

// piece tells what stands at a place of a pattern, but for a target.
func piece(place string, i api.Ins) string {
	switch place {
	case "Rd":
		return registerName(i.Rd)
	case "Rn":
		return registerName(i.Rn)
	case "Rm":
		return registerName(i.Rm)
	case "Status":
		return statusName(i.Rm)
	case "Imm":
		return "#" + strconv.FormatInt(i.Imm, 10)
	case "Cond":
		return conditions()[i.Cond]
	case "Part":
		return "#" + strconv.Itoa(16*i.Cond)
	}
	return place
}

// reading is an instruction as far as it is read. label: the one that it branches to, if it does.
type reading struct {
	ins   api.Ins
	label string
}

// read tells the instruction whose name stood ahead of these tokens; false, if they are not as the pattern.
func (s spelling) read(l []token) (reading, bool) {
	r := reading{ins: s.stem}
	if len(l) != len(s.pattern) {
		return r, false
	}
	for n, p := range s.pattern {
		if !r.take(p.text, l[n]) {
			return r, false
		}
	}
	return r, true
}

// take reads what stands at a place of a pattern; false, if it may not stand there.
func (r *reading) take(place string, t token) (ok bool) {
	switch place {
	case "Rd":
		r.ins.Rd, ok = registerOf(t.text)
	case "Rn":
		r.ins.Rn, ok = registerOf(t.text)
	case "Rm":
		r.ins.Rm, ok = registerOf(t.text)
	case "Status":
		r.ins.Rm, ok = statusOf(t.text)
	case "Imm":
		r.ins.Imm, ok = t.val, t.kind == number
	case "Cond":
		r.ins.Cond, ok = conditionOf(t.text)
	case "Part":
		r.ins.Cond, ok = int(t.val/16), t.kind == number && t.val%16 == 0
	case "Target":
		return r.branch(t)
	default:
		ok = t.text == place
	}
	return ok
}

// branch reads a target.
func (r *reading) branch(t token) bool {
	switch t.kind {
	case name:
		r.label = t.text
	case distance:
		r.ins.Imm = t.val
	default:
		return false
	}
	return true
}
