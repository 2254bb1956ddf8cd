package smt

import (
	"slices"

	"trammel/api"
	"trammel/cert"
	"trammel/elim"
	"trammel/formula"
	"trammel/sat"
)

// How much fuel a choice of atoms has, and a question about numbers.
const (
	choiceFuel = 100000
	numberFuel = 100000
)

// maxGaves is how often layer 5 may give up: it is then that it has done most.
const maxGaves = 30

// fact is that not all of some literals can be so. Its lemma is made once it is known that a proof needs it. A blind one
// is no fact: nothing was found about its literals, and a proof that needs it is none.
type fact struct {
	lits  []int
	blind bool
}

type search struct {
	f       api.Form
	n       int // how many variables the clauses have
	atoms   []api.Lin
	told    [][]api.Lin // by place of a literal, the premise that it is, if there is one
	own     int         // so many of the clauses are the formula's; of the others each is a fact
	clauses [][]int
	facts   []fact
	forced  []int  // literals that must be true
	must    []bool // by place of a literal, whether it is one of these
	rest    []part // what else must be true
	base    []int  // values by which what is forced is so, if such were found
	width   int    // how many values there are
	stuck   bool   // nothing is left to choose
	gaves   int    // how often layer 5 gave up
}

// place is a literal's own place in a list.
func place(l int) int {
	if l > 0 {
		return 2 * l
	}
	return -2*l + 1
}

// begin takes a formula in.
func begin(f, normalized api.Form, m api.Cnf) *search {
	places := 2*len(m.Atoms) + 2
	s := &search{f: f, n: m.N, atoms: m.Atoms, clauses: m.Clauses, own: len(m.Clauses), told: make([][]api.Lin, places), must: make([]bool, places)}
	for i, a := range m.Atoms {
		for _, sign := range []int{1, -1} {
			// A lemma's literal says its opposite.
			if p, err := cert.Premises([]api.Lin{a}, []int{-sign}); err == nil {
				s.told[place(sign*(i+1))] = p
			}
		}
	}
	s.forced, s.rest = parts(normalized, number(m.Atoms)).top(nil, nil)
	slices.Sort(s.forced)
	s.forced = slices.Compact(s.forced)
	for _, l := range s.forced {
		s.must[place(l)] = true
	}
	if vars := formula.Vars(f); len(vars) > 0 {
		s.width = vars[len(vars)-1] + 1
	}
	return s
}

// premises are what literals say, and those of the literals of which it is known.
func (s *search) premises(lits []int) ([]api.Lin, []int) {
	var p []api.Lin
	var known []int
	for _, l := range lits {
		if t := s.told[place(l)]; len(t) > 0 {
			p = append(p, t[0])
			known = append(known, l)
		}
	}
	return p, known
}

// numbers asks layer 5 whether numbers can be as literals say. Too many of them are more than it answers.
func (s *search) numbers(lits []int) (api.Found, []int) {
	p, known := s.premises(lits)
	if s.gaves >= maxGaves {
		return api.Found{}, known
	}
	found, err := elim.Solve(p, numberFuel)
	if err != nil || found.Kind == api.Gave {
		s.gaves++
		return api.Found{}, known
	}
	return found, known
}

// search goes on until something is found, or the fuel is spent.
func (s *search) search(fuel int) api.Answer {
	found, known := s.numbers(s.forced)
	s.base = s.widen(found.Values)
	if found.Kind == api.Unsat {
		s.learn(known, found.Steps)
	} else if s.all(s.base) {
		return api.Answer{Kind: api.Sat, Values: s.base}
	} else {
		lits := s.fixed()
		room := (api.MaxClauses - s.own) / 2 // the rest is for what is learned
		for _, l := range lits[:min(len(lits), room)] {
			s.add(fact{lits: append([]int{-l}, s.forced...)})
		}
	}
	for ; fuel > 0 && !s.stuck && s.gaves < maxGaves; fuel-- {
		c, err := sat.Solve(s.n, s.clauses, choiceFuel)
		if err != nil || c.Kind == api.Gave {
			return api.Answer{}
		}
		if c.Kind == api.Unsat {
			return s.refuted(c.Steps)
		}
		if values, ok := s.try(c.Values[:len(s.atoms)]); ok {
			return api.Answer{Kind: api.Sat, Values: values}
		}
	}
	return api.Answer{}
}

// add adds a fact, and the clause that it is: what is forced is left out of it. It answers that.
func (s *search) add(f fact) []int {
	var clause []int
	for _, l := range f.lits {
		if !s.must[place(l)] {
			clause = append(clause, -l)
		}
	}
	s.facts = append(s.facts, f)
	s.clauses = append(s.clauses, clause)
	return clause
}

// try looks for values, the atoms being chosen. Of what is chosen it takes in only what the values that it has so far
// don't make true by themselves: most choices are about what doesn't matter.
func (s *search) try(atoms []bool) ([]int, bool) {
	lits, values := slices.Clone(s.forced), s.base
	there := map[int]int{}
	for _, l := range lits {
		there[l] = 1
	}
	for {
		more := s.missing(atoms, values, there)
		if len(more) == 0 {
			if s.all(values) {
				return values, true
			}
			s.block(lits)
			return nil, false
		}
		lits = append(lits, more...)
		found, known := s.numbers(lits)
		switch found.Kind {
		case api.Unsat:
			s.learn(known, found.Steps)
			return nil, false
		case api.Gave:
			s.block(lits)
			return nil, false
		}
		values = s.widen(found.Values)
	}
}

// missing are literals, chosen to be true, that make true what isn't so by the values. They are there from then on.
func (s *search) missing(atoms []bool, values []int, there map[int]int) []int {
	var more []int
	is := s.truth(values)
	for _, p := range s.rest {
		if p.is(is) {
			continue
		}
		for _, l := range p.needs(atoms, there) {
			if there[l] == 0 {
				there[l] = 1
				more = append(more, l)
			}
		}
	}
	return more
}

// all tells whether the formula is true by values.
func (s *search) all(values []int) bool {
	is, err := formula.Value(s.f, values)
	return err == nil && is
}

// truth tells which atoms are true by values.
func (s *search) truth(values []int) []bool {
	is := make([]bool, len(s.atoms))
	for i, a := range s.atoms {
		n := a.C
		for _, m := range a.T {
			n += m.K * values[m.V]
		}
		is[i] = n <= 0
	}
	return is
}

// widen sets the variables that have no value yet apart from each other.
func (s *search) widen(values []int) []int {
	wide := slices.Clone(values)
	for v := len(wide); v < s.width; v++ {
		wide = append(wide, (v+1)*(v+1)%(1<<20))
	}
	return wide
}

// block bars a choice of literals about which nothing was found.
func (s *search) block(lits []int) {
	s.stuck = len(s.add(fact{lits: lits, blind: true})) == 0
}
