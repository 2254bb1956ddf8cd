package elim

import (
	"slices"
	"strconv"

	"trammel/api"
)

// maxSum is how great a step's sum may be ahead of its division.
const maxSum = api.MaxCoef * api.MaxTimes

// termsPerFuel is how many terms are looked through for one unit of fuel, when a variable is chosen.
const termsPerFuel = 256

// lossy is how many rows more are as bad as whole numbers that may get lost.
const lossy = 64

// row is a line whose variables aren't eliminated yet.
type row struct {
	l    api.Lin
	line int // its number in the proof
	gone bool
}

// twins are the rows of some terms, and of their opposites: their places and one more, 0 if there is none.
type twins struct{ same, opposite int }

// stage is a variable that was eliminated, and the lines that bound it.
type stage struct {
	v     int
	lines []api.Lin
}

// tally is how often a variable stands in rows, with coefficients above and below 0, and the greatest of each.
type tally struct{ above, below, most, least int }

type search struct {
	premises int
	steps    []api.Step
	rows     []row
	there    []int // places of the rows that aren't gone
	places   map[string]twins
	great    map[int]int // of a line, the line that is MaxTimes times it
	order    []stage
	fuel     int
	end      int // a line without variables that is above 0, or -1
}

// begin takes the premises in.
func begin(premises []api.Lin, fuel int) *search {
	s := &search{premises: len(premises), places: map[string]twins{}, great: map[int]int{}, fuel: fuel, end: -1}
	for i, p := range premises {
		if s.end >= 0 {
			break
		}
		l, div, ok := sum(p, 1, api.Lin{}, 0)
		if !ok || s.known(l) {
			continue
		}
		line := i
		if div > 1 {
			line = s.step([]api.Part{{Line: i, Times: 1}}, div)
		}
		s.put(l, line)
	}
	return s
}

// step adds a step, and answers its line's number.
func (s *search) step(parts []api.Part, div int) int {
	s.steps = append(s.steps, api.Step{Parts: parts, Div: div})
	return s.premises + len(s.steps) - 1
}

// eliminateAll goes on until no variable is left, a proof is there, or the fuel is spent.
func (s *search) eliminateAll() {
	for s.end < 0 && s.fuel > 0 && len(s.there) > 0 {
		counts, terms := s.counts()
		s.fuel -= 1 + terms/termsPerFuel
		if s.loosen(counts) {
			// Rows have gone: how often variables stand is to be counted anew.
		} else if v, i, ok := s.equation(counts); ok {
			s.replace(v, i)
		} else {
			s.pair(cheapest(counts))
		}
		s.sweep()
	}
}

// sweep forgets the places of rows that are gone.
func (s *search) sweep() {
	var there []int
	for _, i := range s.there {
		if !s.rows[i].gone {
			there = append(there, i)
		}
	}
	s.there = there
}

// counts tells how often each variable stands, and how often all do.
func (s *search) counts() (counts map[int]tally, terms int) {
	counts = map[int]tally{}
	for _, i := range s.there {
		for _, m := range s.rows[i].l.T {
			c := counts[m.V]
			if m.K > 0 {
				c.above++
				c.most = max(c.most, m.K)
			} else {
				c.below++
				c.least = max(c.least, -m.K)
			}
			counts[m.V] = c
		}
		terms += len(s.rows[i].l.T)
	}
	return counts, terms
}

// loosen eliminates all variables that are bounded from one side alone, with their rows; it tells whether there was one.
func (s *search) loosen(counts map[int]tally) bool {
	var loose []int
	for v, c := range counts {
		if c.above == 0 || c.below == 0 {
			loose = append(loose, v)
		}
	}
	slices.Sort(loose)
	lines := map[int][]api.Lin{}
	for _, i := range s.there {
		for _, m := range s.rows[i].l.T {
			if c := counts[m.V]; c.above == 0 || c.below == 0 {
				lines[m.V] = append(lines[m.V], s.rows[i].l)
				s.rows[i].gone = true
				break
			}
		}
	}
	for _, v := range loose {
		s.order = append(s.order, stage{v, lines[v]})
	}
	return len(loose) > 0
}

// cheapest is the variable whose elimination adds fewest rows; of several the first one. Where the coefficients of
// neither side are all 1, whole numbers may get lost: that is as bad as many rows.
func cheapest(counts map[int]tally) int {
	best, least := -1, 0
	for v, c := range counts {
		cost := c.above*c.below - c.above - c.below
		if c.most > 1 && c.least > 1 {
			cost += lossy
		}
		if best < 0 || cost < least || cost == least && v < best {
			best, least = v, cost
		}
	}
	return best
}

// equation finds a row that is an equation with its opposite, and a variable of it: one with the least coefficient,
// since with 1 nothing is lost, and of these the one that stands least often.
func (s *search) equation(counts map[int]tally) (v, place int, ok bool) {
	k, often := 0, 0
	for _, i := range s.there {
		o := s.twin(i)
		if o < 0 || s.rows[i].l.C+s.rows[o].l.C != 0 {
			continue
		}
		for _, m := range s.rows[i].l.T {
			c := counts[m.V]
			n := c.above + c.below
			if !ok || abs(m.K) < k || abs(m.K) == k && n < often {
				v, place, ok, k, often = m.V, i, true, abs(m.K), n
			}
		}
	}
	return v, place, ok
}

// twin is the place of the row with the opposite terms, or -1.
func (s *search) twin(i int) int {
	key, flipped := key(s.rows[i].l)
	t := s.places[key]
	o := t.opposite
	if flipped {
		o = t.same
	}
	return o - 1
}

// replace eliminates v by the equation that the row i is with its opposite.
func (s *search) replace(v, i int) {
	o := s.twin(i)
	s.order = append(s.order, stage{v, []api.Lin{s.rows[i].l, s.rows[o].l}})
	for _, r := range s.there {
		k := coef(s.rows[r].l, v)
		if k == 0 {
			continue
		}
		s.rows[r].gone = true
		if r == i || r == o {
			continue
		}
		if (k > 0) == (coef(s.rows[i].l, v) > 0) {
			s.combine(r, o, v)
		} else {
			s.combine(r, i, v)
		}
	}
}

// pair eliminates v by putting together all that bounds it from above and from below.
func (s *search) pair(v int) {
	st := stage{v: v}
	var above, below []int
	for _, i := range s.there {
		k := coef(s.rows[i].l, v)
		if k == 0 {
			continue
		}
		s.rows[i].gone = true
		st.lines = append(st.lines, s.rows[i].l)
		if k > 0 {
			above = append(above, i)
		} else {
			below = append(below, i)
		}
	}
	s.order = append(s.order, st)
	for _, i := range above {
		for _, j := range below {
			s.combine(i, j, v)
		}
	}
}

// combine puts two rows together, so that v isn't in it any more.
func (s *search) combine(i, j, v int) {
	if s.end >= 0 || s.fuel < 1 {
		return
	}
	s.fuel--
	a, b := s.rows[i], s.rows[j]
	x, y := abs(coef(b.l, v)), abs(coef(a.l, v))
	g := common(x, y)
	x, y = x/g, y/g
	l, div, ok := sum(a.l, x, b.l, y)
	if !ok || s.known(l) {
		return
	}
	p, okP := s.parts(a, x)
	q, okQ := s.parts(b, y)
	if okP && okQ {
		s.put(l, s.step(append(p, q...), div))
	}
}

// parts are so many times a row. More than MaxTimes of it go by a line that is MaxTimes times it.
func (s *search) parts(r row, times int) ([]api.Part, bool) {
	if times <= api.MaxTimes {
		return []api.Part{{Line: r.line, Times: times}}, true
	}
	for _, m := range r.l.T {
		if abs(m.K) > api.MaxCoef/api.MaxTimes {
			return nil, false
		}
	}
	if abs(r.l.C) > api.MaxCoef/api.MaxTimes {
		return nil, false
	}
	if s.great[r.line] == 0 {
		s.great[r.line] = s.step([]api.Part{{Line: r.line, Times: api.MaxTimes}}, 1)
	}
	var parts []api.Part
	if rest := times % api.MaxTimes; rest > 0 {
		parts = append(parts, api.Part{Line: r.line, Times: rest})
	}
	for n := times / api.MaxTimes; n > 0; n -= api.MaxTimes {
		parts = append(parts, api.Part{Line: s.great[r.line], Times: min(n, api.MaxTimes)})
	}
	return parts, len(parts) <= api.MaxParts/2
}

// known tells whether a line is no news: one at least as strong is there, or it has no variables and is at most 0.
func (s *search) known(l api.Lin) bool {
	if len(l.T) == 0 {
		return l.C <= 0
	}
	key, flipped := key(l)
	t := s.places[key]
	i := t.same
	if flipped {
		i = t.opposite
	}
	return i > 0 && s.rows[i-1].l.C >= l.C
}

// put takes in a line that is news. It ends the search, if the line can't be, or not with its opposite.
func (s *search) put(l api.Lin, line int) {
	if len(l.T) == 0 {
		s.end = line
		return
	}
	key, flipped := key(l)
	t := s.places[key]
	s.rows = append(s.rows, row{l: l, line: line})
	i, o := &t.same, t.opposite
	if flipped {
		i, o = &t.opposite, t.same
	}
	if *i > 0 {
		s.rows[*i-1].gone = true
	}
	*i = len(s.rows)
	s.places[key] = t
	s.there = append(s.there, len(s.rows)-1)
	if o > 0 && s.rows[o-1].l.C+l.C > 0 {
		s.end = s.step([]api.Part{{Line: line, Times: 1}, {Line: s.rows[o-1].line, Times: 1}}, api.MaxCoef)
	}
}

// proof is the steps that the end needs, alone.
func (s *search) proof() []api.Step {
	needed := make([]bool, len(s.steps))
	if s.end >= s.premises {
		needed[s.end-s.premises] = true
	}
	for i := len(s.steps) - 1; i >= 0; i-- {
		for _, p := range s.steps[i].Parts {
			if needed[i] && p.Line >= s.premises {
				needed[p.Line-s.premises] = true
			}
		}
	}
	var proof []api.Step
	lines := make([]int, len(s.steps))
	for i, st := range s.steps {
		if !needed[i] {
			continue
		}
		lines[i] = s.premises + len(proof)
		for j, p := range st.Parts {
			if p.Line >= s.premises {
				st.Parts[j].Line = lines[p.Line-s.premises]
			}
		}
		proof = append(proof, st)
	}
	return proof
}

// sum is x times a and y times b together, divided by what divides its coefficients, and that; not ok, if a proof can't
// tell it.
func sum(a api.Lin, x int, b api.Lin, y int) (l api.Lin, div int, ok bool) {
	l.C = x*a.C + y*b.C
	i, j := 0, 0
	for i < len(a.T) || j < len(b.T) {
		var m api.Mono
		if j == len(b.T) || i < len(a.T) && a.T[i].V < b.T[j].V {
			m = api.Mono{V: a.T[i].V, K: x * a.T[i].K}
			i++
		} else if i == len(a.T) || b.T[j].V < a.T[i].V {
			m = api.Mono{V: b.T[j].V, K: y * b.T[j].K}
			j++
		} else {
			m = api.Mono{V: a.T[i].V, K: x*a.T[i].K + y*b.T[j].K}
			i++
			j++
		}
		if abs(m.K) > maxSum {
			return api.Lin{}, 0, false
		}
		if m.K != 0 {
			l.T = append(l.T, m)
			div = common(div, m.K)
		}
	}
	if len(l.T) == 0 {
		div = api.MaxCoef
	}
	return divided(l, div)
}

// divided divides a sum.
func divided(l api.Lin, div int) (api.Lin, int, bool) {
	if abs(l.C) > maxSum || len(l.T) > api.MaxTerms || div > api.MaxCoef {
		return api.Lin{}, 0, false
	}
	l.C = up(l.C, div)
	fits := abs(l.C) <= api.MaxCoef
	for i := range l.T {
		l.T[i].K /= div
		fits = fits && abs(l.T[i].K) <= api.MaxCoef
	}
	return l, div, fits
}

// coef is v's coefficient.
func coef(l api.Lin, v int) int {
	for _, m := range l.T {
		if m.V == v {
			return m.K
		}
	}
	return 0
}

// key is one text for some terms and for their opposites, and whether they are the opposites of what it tells.
func key(l api.Lin) (string, bool) {
	sign := 1
	if l.T[0].K < 0 {
		sign = -1
	}
	var b []byte
	for _, m := range l.T {
		b = strconv.AppendInt(b, int64(m.V), 10)
		b = append(b, ' ')
		b = strconv.AppendInt(b, int64(sign*m.K), 10)
		b = append(b, ' ')
	}
	return string(b), sign < 0
}

// common is the greatest number that divides both, at least 0.
func common(a, b int) int {
	for b != 0 {
		a, b = b, a%b
	}
	return abs(a)
}

func abs(n int) int {
	if n < 0 {
		return -n
	}
	return n
}
