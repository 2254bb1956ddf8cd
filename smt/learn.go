package smt

import (
	"cmp"
	"slices"

	"trammel/api"
)

// How many facts are made of one choice, and how many weaker literals are tried in the place of one.
const (
	maxFacts  = 8
	maxWeaker = 4
)

// learn makes facts of literals that can't all be so, as the steps show.
func (s *search) learn(lits []int, steps []api.Step) {
	for range maxFacts {
		core := s.shrink(lits, steps)
		s.add(fact{lits: s.weaken(core)})
		free := slices.IndexFunc(core, func(l int) bool { return !s.must[place(l)] })
		if free < 0 {
			return
		}
		lits = slices.DeleteFunc(slices.Clone(lits), func(l int) bool { return l == core[free] })
		found, known := s.numbers(lits)
		if found.Kind != api.Unsat {
			return
		}
		lits, steps = known, found.Steps
	}
}

// used are the literals whose premises the steps use, if they alone can be shown not to be so; else all.
func (s *search) used(lits []int, steps []api.Step) ([]int, []api.Step) {
	uses := make([]bool, len(lits))
	for _, s := range steps {
		for _, p := range s.Parts {
			if p.Line < len(lits) {
				uses[p.Line] = true
			}
		}
	}
	var core []int
	for i, l := range lits {
		if uses[i] {
			core = append(core, l)
		}
	}
	if found, _ := s.numbers(core); found.Kind == api.Unsat {
		return core, found.Steps
	}
	return lits, steps
}

// shrink leaves out literals without which the others can't be so either. It is of no use to try it with what is forced.
func (s *search) shrink(lits []int, steps []api.Step) []int {
	core, _ := s.used(lits, steps)
	for i := 0; i < len(core); {
		if s.must[place(core[i])] {
			i++
			continue
		}
		fewer := slices.Delete(slices.Clone(core), i, i+1)
		found, known := s.numbers(fewer)
		if found.Kind != api.Unsat {
			i++
			continue
		}
		// Those ahead of i are needed, so they are still there, if they aren't forced.
		core, _ = s.used(known, found.Steps)
		i = slices.IndexFunc(core, func(l int) bool { return !s.must[place(l)] && !slices.Contains(fewer[:i], l) })
		if i < 0 {
			break
		}
	}
	return core
}

// weaken puts, in place of literals that aren't forced, ones that follow from them, with which the others still can't be
// so: what is learned then says more. That they follow is learned too.
func (s *search) weaken(core []int) []int {
	for i, l := range core {
		if s.must[place(l)] {
			continue
		}
		for _, w := range s.weaker(l) {
			other := slices.Clone(core)
			other[i] = w
			if found, _ := s.numbers(other); found.Kind == api.Unsat {
				s.add(fact{lits: []int{l, -w}})
				core = other
				break
			}
		}
	}
	return core
}

// weaker are literals of atoms of the same terms that follow from one, the weakest first, a few of them.
func (s *search) weaker(l int) []int {
	a := s.atoms[max(l, -l)-1]
	var others []int
	for i, o := range s.atoms {
		below := o.C < a.C
		if o.C != a.C && below == (l > 0) && slices.Equal(o.T, a.T) {
			others = append(others, i+1)
		}
	}
	slices.SortFunc(others, func(x, y int) int { return cmp.Compare(s.atoms[x-1].C, s.atoms[y-1].C) })
	if l < 0 {
		slices.Reverse(others)
	}
	others = others[:min(len(others), maxWeaker)]
	for i := range others {
		others[i] *= l / max(l, -l)
	}
	return others
}

// refuted is a certificate, by the steps that layer 8 found, of the facts that these need.
func (s *search) refuted(steps [][]int) api.Answer {
	need := needed(s.n, s.clauses, steps)
	var c api.Cert
	for i, f := range s.facts {
		if !need[s.own+i] {
			continue
		}
		l, ok := s.lemma(f)
		if !ok {
			return api.Answer{}
		}
		c.Lemmas = append(c.Lemmas, l)
	}
	for i, step := range steps {
		if need[len(s.clauses)+i] && len(step) > 0 {
			c.Refute = append(c.Refute, step)
		}
	}
	c.Refute = append(c.Refute, []int{})
	return api.Answer{Kind: api.Unsat, Cert: c}
}

// lemma is a fact's, with its steps.
func (s *search) lemma(f fact) (api.Lemma, bool) {
	if f.blind {
		return api.Lemma{}, false
	}
	found, lits := s.numbers(f.lits)
	if found.Kind != api.Unsat {
		return api.Lemma{}, false
	}
	lits, steps := s.used(lits, found.Steps)
	l := api.Lemma{Steps: steps}
	for _, k := range lits {
		l.Lits = append(l.Lits, -k)
	}
	return l, true
}
