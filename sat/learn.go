package sat

// learn learns a clause from one that is false, goes back to where it says something, and answers what that costs.
func (s *search) learn(conflict int) int {
	all, why := s.analyze(conflict)
	lits := s.shorten(all, &why)
	for _, l := range all {
		s.seen[of(l)] = false
	}
	level := 0
	for i := 1; i < len(lits); i++ {
		if n := s.level[of(lits[i])]; n > level {
			level = n
			lits[1], lits[i] = lits[i], lits[1]
		}
	}
	s.back(level)
	i := len(s.clauses)
	s.clauses = append(s.clauses, lits)
	s.why = append(s.why, why)
	s.watch(i)
	s.make(lits[0], i)
	return 1 + len(lits)/64
}

// analyze goes from a false clause back through the reasons of its literals, until one alone is of the last level. Of
// what it answers, seen holds.
func (s *search) analyze(conflict int) ([]int, reasons) {
	var why reasons
	lits := []int{0}
	last := len(s.heads)
	open, i, l := 0, len(s.trail), 0
	for c := conflict; ; c = s.reason[of(l)] {
		s.note(c, &why)
		for _, k := range s.clauses[c] {
			v := of(k)
			if k == l || s.seen[v] || s.level[v] == 0 {
				continue
			}
			s.seen[v] = true
			s.order.front(v)
			if s.level[v] == last {
				open++
			} else {
				lits = append(lits, k)
			}
		}
		for i--; !s.seen[of(s.trail[i])]; i-- {
		}
		l = s.trail[i]
		open--
		if open == 0 {
			lits[0] = -l
			return lits, why
		}
		s.seen[of(l)] = false
	}
}

// note notes a clause as a reason: itself, if it was learned, and its variables that are set for good.
func (s *search) note(c int, why *reasons) {
	if c >= s.given {
		why.clauses = append(why.clauses, c)
	}
	for _, k := range s.clauses[c] {
		if s.level[of(k)] == 0 {
			why.fixed = append(why.fixed, of(k))
		}
	}
}

// shorten leaves out the literals whose reasons have no literals but those that are seen: what is left says them too.
func (s *search) shorten(lits []int, why *reasons) []int {
	short := []int{lits[0]}
	for _, l := range lits[1:] {
		if r := s.reason[of(l)]; r != none && s.within(r, l) {
			s.note(r, why)
		} else {
			short = append(short, l)
		}
	}
	return short
}

// within tells whether all literals of a clause but one are seen, or false for good.
func (s *search) within(c, but int) bool {
	for _, k := range s.clauses[c] {
		if of(k) != of(but) && !s.seen[of(k)] && s.level[of(k)] > 0 {
			return false
		}
	}
	return true
}

// proof is what was learned and is needed for the end, and the clause without literals.
func (s *search) proof() [][]int {
	if len(s.clauses[s.end]) == 0 {
		return nil
	}
	needed := make([]bool, len(s.clauses))
	fixed := make([]bool, s.n+1)
	open := []int{s.end}
	for len(open) > 0 {
		c := open[len(open)-1]
		open = open[:len(open)-1]
		if c >= s.given && !needed[c] {
			open = append(open, s.why[c-s.given].clauses...)
			open = s.fix(s.why[c-s.given].fixed, fixed, open)
		}
		if !needed[c] {
			needed[c] = true
			open = s.fix(s.clauses[c], fixed, open)
		}
	}
	var steps [][]int
	for i := s.given; i < len(s.clauses); i++ {
		if needed[i] {
			steps = append(steps, s.clauses[i])
		}
	}
	return append(steps, []int{})
}

// fix puts the reasons of the variables of lits that are set for good behind open, each once.
func (s *search) fix(lits []int, fixed []bool, open []int) []int {
	for _, l := range lits {
		v := of(l)
		if s.is[v] != 0 && s.level[v] == 0 && !fixed[v] {
			fixed[v] = true
			open = append(open, s.reason[v])
		}
	}
	return open
}
