package asm

import (
	"sextant/api"
	"sextant/code"
)

// branch is one to a label: the number of its word, its line, and the label's name.
type branch struct {
	at, line int
	label    string
}

// parser makes a list of a listing's lines. labels: the number of the word that each stands ahead of.
type parser struct {
	spellings map[string][]spelling
	labels    map[string]int
	list      []api.Ins
	branches  []branch
}

func newParser() *parser {
	return &parser{spellings: spellings(), labels: map[string]int{}}
}

// line takes the next one.
func (p *parser) line(text string, line int) api.Errno {
	tokens, ok := cut(text)
	labels, rest := p.split(tokens)
	r, fits := p.instruction(rest)
	if !ok || !fits {
		return api.ETEXT
	}
	for _, l := range labels {
		if _, twice := p.labels[l]; twice {
			return api.ETWICE
		}
		p.labels[l] = len(p.list)
	}
	if len(rest) > 0 {
		p.add(r, line)
	}
	return api.OK
}

// split tells the labels that a line begins with, and what stands behind them.
func (p *parser) split(l []token) (labels []string, rest []token) {
	for len(l) > 1 && l[0].kind == name && l[1].text == ":" {
		if _, taken := p.spellings[l[0].text]; taken {
			break
		}
		labels, l = append(labels, l[0].text), l[2:]
	}
	return labels, l
}

// instruction reads one that takes all of the tokens; a line may be without one.
func (p *parser) instruction(l []token) (reading, bool) {
	if len(l) == 0 {
		return reading{}, true
	}
	for _, s := range p.spellings[l[0].text] {
		if r, ok := s.read(l[1:]); ok && code.Fits(r.ins) {
			return r, true
		}
	}
	return reading{}, false
}

func (p *parser) add(r reading, line int) {
	if r.label != "" {
		p.branches = append(p.branches, branch{len(p.list), line, r.label})
	}
	p.list = append(p.list, r.ins)
}

// join tells all branches to labels how far to go; or the line of the first whose label is nowhere.
func (p *parser) join() (line int, e api.Errno) {
	for _, b := range p.branches {
		target, ok := p.labels[b.label]
		if !ok {
			return b.line, api.ENAME
		}
		p.list[b.at].Imm = int64(target - b.at)
	}
	return 0, api.OK
}
