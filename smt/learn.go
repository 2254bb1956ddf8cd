package smt

import (
	"slices"

	"trammel/api"
)

// How many lemmas are made of one choice, and up to how many literals each literal of one is tried to be left out.
const (
	maxLemmas = 6
	maxTried  = 40
)

// learn makes lemmas of literals that can't all be so, as the steps show.
func (s *search) learn(lits []int, steps []api.Step) {
	for range maxLemmas {
		core := s.shrink(used(lits, steps))
		found, _ := s.numbers(core)
		if found.Kind != api.Unsat {
			s.block(lits)
			return
		}
		s.add(core, found.Steps)
		free := slices.IndexFunc(core, func(l int) bool { return !slices.Contains(s.forced, l) })
		if free < 0 {
			return
		}
		lits = slices.DeleteFunc(slices.Clone(lits), func(l int) bool { return l == core[free] })
		again, known := s.numbers(lits)
		if again.Kind != api.Unsat {
			return
		}
		lits, steps = known, again.Steps
	}
}

// add adds the lemma that not all of some literals are so.
func (s *search) add(core []int, steps []api.Step) {
	lemma, clause := []int{}, []int{}
	for _, l := range core {
		lemma, clause = append(lemma, -l), append(clause, -l)
	}
	s.lemmas = append(s.lemmas, api.Lemma{Lits: lemma, Steps: steps})
	s.clauses = append(s.clauses, clause)
}

// used are the literals whose premises the steps use.
func used(lits []int, steps []api.Step) []int {
	uses := make([]bool, len(lits))
	for _, s := range steps {
		for _, p := range s.Parts {
			if p.Line < len(lits) {
				uses[p.Line] = true
			}
		}
	}
	var core []int
	for i, l := range lits {
		if uses[i] {
			core = append(core, l)
		}
	}
	return core
}

// shrink leaves out literals without which the others can't be so either.
func (s *search) shrink(core []int) []int {
	for i := 0; i < len(core) && len(core) <= maxTried; {
		fewer := slices.Delete(slices.Clone(core), i, i+1)
		found, known := s.numbers(fewer)
		if found.Kind != api.Unsat {
			i++
			continue
		}
		next := used(known, found.Steps)
		// Those ahead of i are needed, so they are still there.
		core = next
	}
	return core
}
