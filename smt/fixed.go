package smt

import (
	"slices"

	"trammel/api"
)

// far is how great numbers may become here; what goes beyond it isn't gone on with.
const far = 1 << 31

// swap says that a variable is a form: one of an equation that must be so.
type swap struct {
	v int
	l api.Lin
}

// fixer knows what must be so: equations, as swaps, and of each row of terms the greatest constant with which it is at
// most 0.
type fixer struct {
	swaps []swap
	rows  map[string]int
}

// fixed are literals, not forced themselves, that follow from the forced ones by putting equations in. It isn't all that
// follows, but it costs next to nothing.
func (s *search) fixed() []int {
	f := &fixer{rows: map[string]int{}}
	forms := s.forcedForms()
	for _, l := range equations(forms) {
		f.swap(l)
	}
	for _, l := range forms {
		if r, ok := f.reduce(l); ok {
			key := text(api.Lin{T: r.T})
			if c, there := f.rows[key]; !there || r.C > c {
				f.rows[key] = r.C
			}
		}
	}
	var lits []int
	for i, a := range s.atoms {
		lit := f.literal(a, i+1)
		if lit != 0 && !slices.Contains(s.forced, lit) {
			lits = append(lits, lit)
		}
	}
	return lits
}

// forcedForms are what the forced literals say: forms that are at most 0.
func (s *search) forcedForms() []api.Lin {
	p, _ := s.premises(s.forced)
	return p
}

// equations are the forms whose opposites are there too.
func equations(forms []api.Lin) []api.Lin {
	there := map[string]int{}
	for _, l := range forms {
		there[text(l)] = 1
	}
	var l []api.Lin
	for _, f := range forms {
		if o := scaled(f, -1); len(f.T) > 0 && f.T[0].K > 0 && there[text(o)] > 0 {
			l = append(l, f)
		}
	}
	return l
}

// swap takes in an equation, if one of its variables has the coefficient 1 or -1.
func (f *fixer) swap(l api.Lin) {
	l, ok := f.reduce(l)
	if !ok {
		return
	}
	for i := len(l.T) - 1; i >= 0; i-- {
		if k := l.T[i].K; k == 1 || k == -1 {
			rest := api.Lin{C: l.C, T: slices.Delete(slices.Clone(l.T), i, i+1)}
			f.swaps = append(f.swaps, swap{l.T[i].V, scaled(rest, -k)})
			return
		}
	}
}

// reduce puts in all swaps, and divides by what divides all coefficients.
func (f *fixer) reduce(l api.Lin) (api.Lin, bool) {
	for _, s := range f.swaps {
		i := slices.IndexFunc(l.T, func(m api.Mono) bool { return m.V == s.v })
		if i < 0 {
			continue
		}
		k := l.T[i].K
		rest := api.Lin{C: l.C, T: slices.Delete(slices.Clone(l.T), i, i+1)}
		l = plus(rest, s.l, k)
		if !near(l) {
			return api.Lin{}, false
		}
	}
	g := 0
	for _, m := range l.T {
		g = common(g, m.K)
	}
	if g > 1 {
		l = divided(l, g)
	}
	return l, true
}

// literal is the one of an atom that follows, or 0.
func (f *fixer) literal(a api.Lin, number int) int {
	r, ok := f.reduce(a)
	if !ok {
		return 0
	}
	if len(r.T) == 0 {
		if r.C <= 0 {
			return number
		}
		return -number
	}
	if c, there := f.rows[text(api.Lin{T: r.T})]; there && c >= r.C {
		return number
	}
	if c, there := f.rows[text(scaled(api.Lin{T: r.T}, -1))]; there && c >= 1-r.C {
		return -number
	}
	return 0
}

// scaled is k times a form.
func scaled(l api.Lin, k int) api.Lin {
	n := api.Lin{C: k * l.C, T: make([]api.Mono, len(l.T))}
	for i, m := range l.T {
		n.T[i] = api.Mono{V: m.V, K: k * m.K}
	}
	return n
}

// plus is a and k times b.
func plus(a, b api.Lin, k int) api.Lin {
	n := api.Lin{C: a.C + k*b.C}
	i := 0
	for _, m := range b.T {
		for i < len(a.T) && a.T[i].V < m.V {
			n.T = append(n.T, a.T[i])
			i++
		}
		c := k * m.K
		if i < len(a.T) && a.T[i].V == m.V {
			c += a.T[i].K
			i++
		}
		if c != 0 {
			n.T = append(n.T, api.Mono{V: m.V, K: c})
		}
	}
	n.T = append(n.T, a.T[i:]...)
	return n
}

// near tells whether all numbers of a form are near enough to go on with.
func near(l api.Lin) bool {
	within := func(n int) bool { return -far <= n && n <= far }
	return within(l.C) && !slices.ContainsFunc(l.T, func(m api.Mono) bool { return !within(m.K) })
}

// divided divides coefficients by g, which divides them, and rounds the constant up.
func divided(l api.Lin, g int) api.Lin {
	n := api.Lin{C: l.C / g, T: make([]api.Mono, len(l.T))}
	if l.C%g > 0 {
		n.C++
	}
	for i, m := range l.T {
		n.T[i] = api.Mono{V: m.V, K: m.K / g}
	}
	return n
}

// common is the greatest number that divides both, at least 0.
func common(a, b int) int {
	for b != 0 {
		a, b = b, a%b
	}
	return max(a, -a)
}
