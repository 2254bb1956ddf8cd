package sat

import "trammel/api"

// none is no clause.
const none = -1

// firstRestart is after how many conflicts the search first begins anew, with what it has learned.
const firstRestart = 100

// reasons are why a learned clause follows: learned clauses, and variables that are set for good.
type reasons struct{ clauses, fixed []int }

type search struct {
	n       int
	clauses [][]int // the first two literals of each are watched
	given   int     // the clauses from here on are learned
	why     []reasons
	watched [][]int // by place of a literal: the clauses that watch it
	is      []int   // 1: true, -1: false, 0: neither
	was     []int   // what it was when it was last set: tried first
	level   []int
	reason  []int
	seen    []bool
	trail   []int // what is true, in the order in which it became so
	next    int   // of these what isn't gone through yet
	heads   []int // how long trail was at each decision
	order   *order
	end     int // the clause that was false without decisions
}

// place is a literal's own place in a list.
func place(l int) int {
	if l > 0 {
		return 2 * l
	}
	return -2*l + 1
}

// of is a literal's variable.
func of(l int) int {
	if l > 0 {
		return l
	}
	return -l
}

// begin takes sound clauses in.
func begin(n int, clauses [][]int) *search {
	s := &search{
		n: n, given: len(clauses), watched: make([][]int, 2*n+2), is: make([]int, n+1), was: make([]int, n+1),
		level: make([]int, n+1), reason: make([]int, n+1), seen: make([]bool, n+1), order: newOrder(n), end: none,
	}
	for i, c := range clauses {
		own := s.single(c)
		s.clauses = append(s.clauses, own)
		if s.end == none {
			s.watch(i)
		}
	}
	return s
}

// single is a clause with each of its literals once.
func (s *search) single(c []int) []int {
	var own []int
	for _, l := range c {
		if s.is[of(l)] != l {
			s.is[of(l)] = l
			own = append(own, l)
		}
	}
	for _, l := range c {
		s.is[of(l)] = 0
	}
	return own
}

// watch begins to watch a clause; one of a single literal makes it true once it is gone through.
func (s *search) watch(i int) {
	c := s.clauses[i]
	if len(c) == 0 {
		s.end = i
	}
	if len(c) > 1 {
		s.watched[place(c[0])] = append(s.watched[place(c[0])], i)
		s.watched[place(c[1])] = append(s.watched[place(c[1])], i)
	}
}

// value is 1, if the literal is true, -1, if it is false, else 0.
func (s *search) value(l int) int {
	if l > 0 {
		return s.is[l]
	}
	return -s.is[-l]
}

// search goes on until it has found something, or the fuel is spent.
func (s *search) search(fuel int) int {
	if !s.units() {
		return api.Unsat
	}
	conflicts, limit := 0, firstRestart
	for {
		c := s.follow()
		switch {
		case c != none && len(s.heads) == 0:
			s.end = c
			return api.Unsat
		case c != none && fuel < 1:
			return api.Gave
		case c != none:
			fuel -= s.learn(c)
			conflicts++
		case conflicts >= limit:
			s.back(0)
			conflicts, limit = 0, limit+limit/2
		case len(s.trail) == s.n:
			return api.Sat
		default:
			s.decide()
		}
	}
}

// units makes true what clauses of a single literal say; not so, if one is false.
func (s *search) units() bool {
	for i, c := range s.clauses {
		if s.end == none && len(c) == 1 && !s.make(c[0], i) {
			s.end = i
		}
	}
	return s.end == none
}

// make makes a literal true, by a clause or none; not so, if it is false.
func (s *search) make(l, reason int) bool {
	if v := s.value(l); v != 0 {
		return v > 0
	}
	v := of(l)
	s.is[v] = 1
	if l < 0 {
		s.is[v] = -1
	}
	s.level[v], s.reason[v] = len(s.heads), reason
	s.trail = append(s.trail, l)
	return true
}

// decide tries a variable that isn't set.
func (s *search) decide() {
	v := s.order.first(func(v int) bool { return s.is[v] == 0 })
	s.heads = append(s.heads, len(s.trail))
	if s.was[v] > 0 {
		s.make(v, none)
	} else {
		s.make(-v, none)
	}
}

// follow goes through what follows; it answers a clause that is false, or none.
func (s *search) follow() int {
	for s.next < len(s.trail) {
		l := -s.trail[s.next]
		s.next++
		list := s.watched[place(l)]
		kept := list[:0]
		for i, c := range list {
			if !s.move(c, l) {
				kept = append(kept, c)
				if !s.make(s.clauses[c][0], c) {
					kept = append(kept, list[i+1:]...)
					s.watched[place(l)] = kept
					return c
				}
			}
		}
		s.watched[place(l)] = kept
	}
	return none
}

// move lets a clause watch another literal than l, which is false. If it can't, its first literal is the only one left.
func (s *search) move(i, l int) bool {
	c := s.clauses[i]
	if c[0] == l {
		c[0], c[1] = c[1], c[0]
	}
	if s.value(c[0]) > 0 {
		return false
	}
	for k := 2; k < len(c); k++ {
		if s.value(c[k]) >= 0 {
			c[1], c[k] = c[k], c[1]
			s.watched[place(c[1])] = append(s.watched[place(c[1])], i)
			return true
		}
	}
	return false
}

// back undoes all above a level.
func (s *search) back(level int) {
	if len(s.heads) <= level {
		return
	}
	for _, l := range s.trail[s.heads[level]:] {
		v := of(l)
		s.was[v] = s.is[v]
		s.is[v] = 0
		s.order.back(v)
	}
	s.trail = s.trail[:s.heads[level]]
	s.heads = s.heads[:level]
	s.next = len(s.trail)
}

// values are those that are set.
func (s *search) values() []bool {
	values := make([]bool, s.n)
	for i := range values {
		values[i] = s.is[i+1] > 0
	}
	return values
}
