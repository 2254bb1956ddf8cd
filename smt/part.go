package smt

import (
	"strconv"

	"trammel/api"
)

// part is a part of a normalized formula: an atom's literal, or, if it is 0, an FAnd, FOr, FTrue or FFalse of kids.
type part struct {
	lit  int
	and  bool // an FTrue is an FAnd, an FFalse an FOr of nothing
	kids []part
}

// parts makes the parts of a normalized formula, by its atoms' numbers.
func parts(f api.Form, numbers map[string]int) part {
	switch f.Kind {
	case api.FLe:
		return part{lit: numbers[text(f.L)]}
	case api.FNot:
		return part{lit: -numbers[text(f.Kids[0].L)]}
	}
	p := part{and: f.Kind == api.FAnd || f.Kind == api.FTrue}
	for _, k := range f.Kids {
		p.kids = append(p.kids, parts(k, numbers))
	}
	return p
}

// number tells each atom's number.
func number(atoms []api.Lin) map[string]int {
	numbers := map[string]int{}
	for i, a := range atoms {
		numbers[text(a)] = i + 1
	}
	return numbers
}

// text is one for each form.
func text(l api.Lin) string {
	b := strconv.AppendInt(nil, int64(l.C), 10)
	for _, m := range l.T {
		b = append(b, ' ')
		b = strconv.AppendInt(b, int64(m.V), 10)
		b = append(b, ' ')
		b = strconv.AppendInt(b, int64(m.K), 10)
	}
	return string(b)
}

// top puts the literals that must be true behind lits, and all else that must be so behind rest.
func (p part) top(lits []int, rest []part) ([]int, []part) {
	switch {
	case p.lit != 0:
		return append(lits, p.lit), rest
	case !p.and:
		return lits, append(rest, p)
	}
	for _, k := range p.kids {
		lits, rest = k.top(lits, rest)
	}
	return lits, rest
}

// is tells whether a part is true by the truth of its atoms.
func (p part) is(atoms []bool) bool {
	if p.lit > 0 {
		return atoms[p.lit-1]
	}
	if p.lit < 0 {
		return !atoms[-p.lit-1]
	}
	for _, k := range p.kids {
		if k.is(atoms) != p.and {
			return !p.and
		}
	}
	return p.and
}

// needs are literals, true by the truth of the atoms, that make true a part that is so; as few as can be had at once
// beside those that are there already.
func (p part) needs(atoms []bool, there map[int]int) []int {
	if p.lit != 0 {
		if there[p.lit] != 0 {
			return nil
		}
		return []int{p.lit}
	}
	var all, best []int
	found := false
	for _, k := range p.kids {
		if p.and {
			all = append(all, k.needs(atoms, there)...)
			continue
		}
		if !k.is(atoms) {
			continue
		}
		if l := k.needs(atoms, there); !found || len(l) < len(best) {
			best, found = l, true
		}
	}
	return append(all, best...)
}
