package asm

import (
	"maps"
	"slices"
	"strconv"
	"strings"

	"sextant/api"
	"sextant/code"
)

// printer writes a listing line by line. labels: by the word that each stands ahead of; spellings: by their operations.
type printer struct {
	text      strings.Builder
	list      []api.Ins
	labels    map[int]int
	spellings map[int][]spelling
}

// textOf is the listing of instructions.
func textOf(l []api.Ins) string {
	p := &printer{list: l, labels: labelsOf(l), spellings: byOperation(spellings())}
	for at := range l {
		p.label(at)
		p.line(at)
	}
	p.label(len(l))
	return p.text.String()
}

// labelsOf numbers the targets that stand in the list, or at its end, as they rise.
func labelsOf(l []api.Ins) map[int]int {
	labels := map[int]int{}
	for at, i := range l {
		if target := at + int(i.Imm); isBranch(i.Op) && target >= 0 && target <= len(l) {
			labels[target] = 0
		}
	}
	for n, target := range slices.Sorted(maps.Keys(labels)) {
		labels[target] = n
	}
	return labels
}

func isBranch(op int) bool {
	return op == code.B || op == code.Bcond || op == code.Cbz || op == code.Cbnz
}

// byOperation tells spellings of each operation, those of one name in their order.
func byOperation(all map[string][]spelling) map[int][]spelling {
	out := map[int][]spelling{}
	for _, mnemonic := range slices.Sorted(maps.Keys(all)) {
		for _, s := range all[mnemonic] {
			out[s.stem.Op] = append(out[s.stem.Op], s)
		}
	}
	return out
}

// label writes the one that stands ahead of a word, if there is one.
func (p *printer) label(at int) {
	if n, ok := p.labels[at]; ok {
		p.text.WriteString(labelName(n) + ":\n")
	}
}

func labelName(n int) string { return "L" + strconv.Itoa(n) }

// line writes an instruction by the first spelling that tells all of it.
func (p *printer) line(at int) {
	i := p.list[at]
	for _, s := range p.spellings[i.Op] {
		if s.tells(i) {
			p.spell(s, at)
			return
		}
	}
}

func (p *printer) spell(s spelling, at int) {
	p.text.WriteString(s.name)
	for n, t := range s.pattern {
		if n == 0 || t.blank {
			p.text.WriteString(" ")
		}
		if t.text == "Target" {
			p.text.WriteString(p.target(at))
		} else {
			p.text.WriteString(piece(t.text, p.list[at]))
		}
	}
	p.text.WriteString("\n")
}

// target tells where a branch goes on.
func (p *printer) target(at int) string {
	imm := p.list[at].Imm
	if n, ok := p.labels[at+int(imm)]; ok {
		return labelName(n)
	}
	if imm < 0 {
		return "." + strconv.FormatInt(imm, 10)
	}
	return ".+" + strconv.FormatInt(imm, 10)
}
