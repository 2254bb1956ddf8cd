// Package lin is layer 1: see shared/doc/01-lin.md.
package lin

import (
	"cmp"
	"slices"

	"trammel/api"
)

// maxMade is how many terms Make takes.
const maxMade = 4096

// Check tells whether a form is sound: P1.1.
func Check(l api.Lin) error {
	if !within(l.C, api.MaxCoef) || len(l.T) > api.MaxTerms {
		return api.ErrForm
	}
	last := -1
	sound := all(l.T, func(m api.Mono) bool {
		rising := m.V > last
		last = m.V
		return rising && m.K != 0 && mayStand(m)
	})
	if !sound {
		return api.ErrForm
	}
	return nil
}

// Make makes one: P1.1.
func Make(c int, t []api.Mono) (api.Lin, error) {
	if !within(c, api.MaxCoef) || len(t) > maxMade || !all(t, mayStand) {
		return api.Lin{}, api.ErrArg
	}
	return gather(c, slices.Clone(t))
}

// Add is x times a and y times b: P1.2.
func Add(a, b api.Lin, x, y int) (api.Lin, error) {
	if Check(a) != nil || Check(b) != nil {
		return api.Lin{}, api.ErrForm
	}
	if !within(x, api.MaxTimes) || !within(y, api.MaxTimes) {
		return api.Lin{}, api.ErrArg
	}
	t := make([]api.Mono, 0, len(a.T)+len(b.T))
	for _, m := range a.T {
		t = append(t, api.Mono{V: m.V, K: x * m.K})
	}
	for _, m := range b.T {
		t = append(t, api.Mono{V: m.V, K: y * m.K})
	}
	return gather(x*a.C+y*b.C, t)
}

// Value is its value: P1.3.
func Value(l api.Lin, values []int) (int, error) {
	if Check(l) != nil {
		return 0, api.ErrForm
	}
	sum := l.C
	near := all(l.T, func(m api.Mono) bool {
		v := 0
		if m.V < len(values) {
			v = values[m.V]
		}
		sum += m.K * v
		return within(v, api.MaxValue)
	})
	if !near {
		return 0, api.ErrArg
	}
	return sum, nil
}

// Gcd divides all its coefficients: P1.3.
func Gcd(l api.Lin) int {
	if Check(l) != nil {
		return 0
	}
	g := 0
	all(l.T, func(m api.Mono) bool {
		g = common(g, m.K)
		return true
	})
	return g
}

// Same tells whether two are the same: P1.3.
func Same(a, b api.Lin) bool {
	return a.C == b.C && slices.Equal(a.T, b.T)
}

// all tells whether ok says yes to each term; it stops at the first no.
func all(t []api.Mono, ok func(api.Mono) bool) bool {
	for _, m := range t {
		if !ok(m) {
			return false
		}
	}
	return true
}

// within tells whether n is from -most to most.
func within(n, most int) bool { return -most <= n && n <= most }

// mayStand tells whether a term's numbers are in their bounds.
func mayStand(m api.Mono) bool {
	return 0 <= m.V && m.V < api.MaxVar && within(m.K, api.MaxCoef)
}

// gather makes the sound form of c and the terms t, whose memory it takes over.
func gather(c int, t []api.Mono) (api.Lin, error) {
	slices.SortFunc(t, func(a, b api.Mono) int { return cmp.Compare(a.V, b.V) })
	l := api.Lin{C: c, T: drop(together(t))}
	if !within(c, api.MaxCoef) || !all(l.T, mayStand) {
		return api.Lin{}, api.ErrFar
	}
	if len(l.T) > api.MaxTerms {
		return api.Lin{}, api.ErrLong
	}
	return l, nil
}

// together puts neighbours of one variable into one term.
func together(t []api.Mono) []api.Mono {
	var sums []api.Mono
	for _, m := range t {
		if n := len(sums); n > 0 && sums[n-1].V == m.V {
			sums[n-1].K += m.K
		} else {
			sums = append(sums, m)
		}
	}
	return sums
}

// drop leaves out the terms whose coefficient is 0.
func drop(t []api.Mono) []api.Mono {
	var rest []api.Mono
	for _, m := range t {
		if m.K != 0 {
			rest = append(rest, m)
		}
	}
	return rest
}

// common is the greatest number that divides both, at least 0.
func common(a, b int) int {
	for b != 0 {
		a, b = b, a%b
	}
	if a < 0 {
		return -a
	}
	return a
}
