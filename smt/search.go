package smt

import (
	"slices"

	"trammel/api"
	"trammel/cert"
	"trammel/elim"
	"trammel/formula"
	"trammel/sat"
)

// How much is spent on one choice of atoms, and on one question about numbers.
const (
	choiceFuel = 20000
	numberFuel = 30000
)

type search struct {
	f       api.Form
	n       int // how many variables the clauses have
	atoms   []api.Lin
	told    [][]api.Lin // by place of a literal, the premise that it is, if there is one
	clauses [][]int
	lemmas  []api.Lemma
	forced  []int  // literals that must be true
	rest    []part // what else must be true
	base    []int  // values by which what is forced is so, if such were found
	width   int    // how many values there are
	stuck   bool   // nothing is left to choose
}

// place is a literal's own place in a list.
func place(l int) int {
	if l > 0 {
		return 2 * l
	}
	return -2*l + 1
}

// begin takes a formula in.
func begin(f, normalized api.Form, m api.Cnf) *search {
	s := &search{f: f, n: m.N, atoms: m.Atoms, clauses: m.Clauses, told: make([][]api.Lin, 2*len(m.Atoms)+2)}
	for i, a := range m.Atoms {
		for _, l := range []int{i + 1, -i - 1} {
			// A lemma's literal says its opposite.
			if p, err := cert.Premises([]api.Lin{a}, []int{-l / (i + 1)}); err == nil {
				s.told[place(l)] = p
			}
		}
	}
	s.forced, s.rest = parts(normalized, number(m.Atoms)).top(nil, nil)
	slices.Sort(s.forced)
	s.forced = slices.Compact(s.forced)
	if vars := formula.Vars(f); len(vars) > 0 {
		s.width = vars[len(vars)-1] + 1
	}
	return s
}

// premises are what literals say, and those of the literals of which it is known.
func (s *search) premises(lits []int) ([]api.Lin, []int) {
	var p []api.Lin
	var known []int
	for _, l := range lits {
		if t := s.told[place(l)]; len(t) > 0 {
			p = append(p, t[0])
			known = append(known, l)
		}
	}
	return p, known
}

// numbers asks layer 5 whether numbers can be as literals say. Too many of them are more than it answers.
func (s *search) numbers(lits []int) (api.Found, []int) {
	p, known := s.premises(lits)
	found, err := elim.Solve(p, numberFuel)
	if err != nil {
		return api.Found{}, known
	}
	return found, known
}

// search goes on until something is found, or the fuel is spent.
func (s *search) search(fuel int) api.Answer {
	found, known := s.numbers(s.forced)
	s.base = s.widen(found.Values)
	if found.Kind == api.Unsat {
		s.learn(known, found.Steps)
	} else if s.all(s.base) {
		return api.Answer{Kind: api.Sat, Values: s.base}
	}
	for ; fuel > 0 && !s.stuck; fuel-- {
		c, err := sat.Solve(s.n, s.clauses, choiceFuel)
		if err != nil || c.Kind == api.Gave {
			return api.Answer{}
		}
		if c.Kind == api.Unsat {
			return api.Answer{Kind: api.Unsat, Cert: api.Cert{Lemmas: s.lemmas, Refute: c.Steps}}
		}
		if values, ok := s.try(c.Values[:len(s.atoms)]); ok {
			return api.Answer{Kind: api.Sat, Values: values}
		}
	}
	return api.Answer{}
}

// try looks for values, the atoms being chosen. Of what is chosen it takes in only what the values that it has so far
// don't make true by themselves: most choices are about what doesn't matter.
func (s *search) try(atoms []bool) ([]int, bool) {
	lits, values := slices.Clone(s.forced), s.base
	there := map[int]int{}
	for _, l := range lits {
		there[l] = 1
	}
	for {
		more := false
		is := s.truth(values)
		for _, p := range s.rest {
			if p.is(is) {
				continue
			}
			for _, l := range p.needs(atoms, there) {
				if there[l] == 0 {
					there[l], more = 1, true
					lits = append(lits, l)
				}
			}
		}
		if !more {
			if s.all(values) {
				return values, true
			}
			s.block(lits)
			return nil, false
		}
		found, known := s.numbers(lits)
		switch found.Kind {
		case api.Unsat:
			s.learn(known, found.Steps)
			return nil, false
		case api.Gave:
			s.block(lits)
			return nil, false
		}
		values = s.widen(found.Values)
	}
}

// all tells whether the formula is true by values.
func (s *search) all(values []int) bool {
	is, err := formula.Value(s.f, values)
	return err == nil && is
}

// truth tells which atoms are true by values.
func (s *search) truth(values []int) []bool {
	is := make([]bool, len(s.atoms))
	for i, a := range s.atoms {
		n := a.C
		for _, m := range a.T {
			n += m.K * values[m.V]
		}
		is[i] = n <= 0
	}
	return is
}

// widen sets the variables that have no value yet apart from each other.
func (s *search) widen(values []int) []int {
	wide := slices.Clone(values)
	for v := len(wide); v < s.width; v++ {
		wide = append(wide, (v+1)*(v+1)%(1<<20))
	}
	return wide
}

// block bars a choice of literals about which nothing was found. No lemma says so: a proof that needs it isn't taken.
func (s *search) block(lits []int) {
	var clause []int
	for _, l := range lits {
		if !slices.Contains(s.forced, l) {
			clause = append(clause, -l)
		}
	}
	s.stuck = len(clause) == 0
	s.clauses = append(s.clauses, clause)
}
