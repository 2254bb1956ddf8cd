package cert_test

import (
	"errors"
	"math"
	"math/rand"
	"reflect"
	"slices"
	"testing"

	"trammel/api"
	"trammel/cert"
	"trammel/formula"
	"trammel/lin"
)

func le(c int, vk ...int) api.Form { return api.Form{Kind: api.FLe, L: form(c, vk...)} }
func eq(c int, vk ...int) api.Form { return api.Form{Kind: api.FEq, L: form(c, vk...)} }
func not(f api.Form) api.Form      { return node(api.FNot, f) }

func node(kind int, kids ...api.Form) api.Form {
	return api.Form{Kind: kind, Kids: kids}
}

func form(c int, vk ...int) api.Lin {
	l := api.Lin{C: c}
	for i := 0; i+1 < len(vk); i += 2 {
		l.T = append(l.T, api.Mono{V: vk[i], K: vk[i+1]})
	}
	return l
}

func step(div int, lineTimes ...int) api.Step {
	s := api.Step{Div: div}
	for i := 0; i+1 < len(lineTimes); i += 2 {
		s.Parts = append(s.Parts, api.Part{Line: lineTimes[i], Times: lineTimes[i+1]})
	}
	return s
}

func lemma(lits []int, steps ...api.Step) api.Lemma { return api.Lemma{Lits: lits, Steps: steps} }
func c(l ...int) []int                              { return l }

func at(err error) int {
	var s *api.Spot
	if errors.As(err, &s) {
		return s.At
	}
	return -1
}

func TestPremises(t *testing.T) { // P10.1
	a, b, far := form(2, 0, 1), form(-5, 1, 3, 4, -1), form(-api.MaxCoef, 0, 1)
	for i, x := range []struct {
		atoms []api.Lin
		lits  []int
		want  []api.Lin
		err   error
	}{
		{nil, nil, nil, nil}, {[]api.Lin{a, b}, nil, nil, nil},
		{[]api.Lin{a, b}, c(1, -2, 2, -1, 1), []api.Lin{form(-1, 0, -1), b, form(6, 1, -3, 4, 1), a, form(-1, 0, -1)}, nil},
		{[]api.Lin{a, b}, c(3), nil, api.ErrForm}, {[]api.Lin{a, b}, c(1, -3), nil, api.ErrForm}, {[]api.Lin{a, b}, c(0), nil, api.ErrForm}, {[]api.Lin{a}, c(math.MinInt), nil, api.ErrForm}, {[]api.Lin{a}, c(math.MaxInt), nil, api.ErrForm}, {nil, c(1), nil, api.ErrForm},
		{[]api.Lin{a, form(0, 0, 0)}, c(1), nil, api.ErrForm}, {[]api.Lin{form(api.MaxCoef + 1)}, nil, nil, api.ErrForm},
		{[]api.Lin{far}, c(1), nil, api.ErrFar}, {[]api.Lin{far}, c(-1), []api.Lin{far}, nil}, {[]api.Lin{far}, c(1, 2), nil, api.ErrForm}, // form ahead of far
		{[]api.Lin{form(1-api.MaxCoef, 0, 1)}, c(1), []api.Lin{form(api.MaxCoef, 0, -1)}, nil}, {[]api.Lin{form(0)}, c(1), []api.Lin{form(1)}, nil},
	} {
		p, err := cert.Premises(x.atoms, x.lits)
		if err != x.err || !slices.EqualFunc(p, x.want, lin.Same) {
			t.Error(i, p, err)
		}
	}
}

func wide(n int) api.Form { // FAnd of n FTrue
	return node(api.FAnd, make([]api.Form, n)...)
}

// both is: x0 is at most 0, and at least 1. Its atoms: x0, and (as FNot) x0 again.
func both() api.Form { return node(api.FAnd, le(0, 0, 1), le(1, 0, -1)) }

// apart is: x0 is 2 x1, and x0 less 2 x2 is 1. Atoms 1 to 4: x0 - 2 x1, 1 + x0 - 2 x1, x0 - 2 x2 - 1, x0 - 2 x2.
func apart() api.Form { return node(api.FAnd, eq(0, 0, 1, 1, -2), eq(-1, 0, 1, 2, -2)) }

func TestCheck(t *testing.T) { // P10.2
	empty := [][]int{{}}
	odd := lemma(c(-1, 2, -3, 4), // x0 <= 2 x1, x0 >= 2 x1, x0 <= 2 x2 + 1, x0 >= 2 x2 + 1
		step(2, 0, 1, 3, 1), // 1 + 2 x2 - 2 x1: x2 - x1 + 1 at most 0
		step(2, 1, 1, 2, 1), // -1 + 2 x1 - 2 x2: x1 - x2 at most 0
		step(1, 4, 1, 5, 1))
	wrong := lemma(c(-1, 2, -3, 4), step(1, 0, 1))
	far := node(api.FOr, le(-api.MaxCoef, 0, 1), le(0, 1, 1))
	for i, x := range []struct {
		f    api.Form
		c    api.Cert
		at   int
		code api.Code
	}{
		{node(api.FFalse), api.Cert{Refute: empty}, 0, 0}, {node(api.FTrue), api.Cert{Refute: empty}, 0, api.ErrStep},
		{node(api.FFalse), api.Cert{}, -1, api.ErrOpen}, {node(api.FOr), api.Cert{Refute: empty}, 0, 0}, {le(1), api.Cert{Refute: empty}, 0, 0}, {le(0), api.Cert{Refute: empty}, 0, api.ErrStep},
		{both(), api.Cert{Refute: empty}, 0, 0}, {both(), api.Cert{}, -1, api.ErrOpen},
		{node(api.FAnd, le(2, 0, 1), le(0, 0, -1)), api.Cert{Refute: empty}, 0, api.ErrStep}, // numbers have to come in
		{node(api.FAnd, le(2, 0, 1), le(0, 0, -1)), api.Cert{Lemmas: []api.Lemma{lemma(c(-1, 2), step(1, 0, 1, 1, 1))}, Refute: empty}, 0, 0},
		{node(api.FAnd, le(2, 0, 1), le(0, 0, -1)), api.Cert{Lemmas: []api.Lemma{lemma(c(-1, -2), step(1, 0, 1, 1, 1))}, Refute: empty}, 0, api.ErrOpen},
		{apart(), api.Cert{Lemmas: []api.Lemma{odd}, Refute: empty}, 0, 0}, {apart(), api.Cert{Lemmas: []api.Lemma{odd}}, -1, api.ErrOpen}, {apart(), api.Cert{Lemmas: []api.Lemma{odd}, Refute: [][]int{{1}, {}}}, 0, 0},
		{apart(), api.Cert{Lemmas: []api.Lemma{odd, wrong}, Refute: empty}, 1, api.ErrOpen}, {apart(), api.Cert{Lemmas: []api.Lemma{odd}, Refute: [][]int{{}, {5}}}, 0, 0},
		{apart(), api.Cert{Lemmas: []api.Lemma{odd}, Refute: [][]int{{8}}}, -1, api.ErrForm}, {apart(), api.Cert{Lemmas: []api.Lemma{odd}, Refute: [][]int{{0}}}, -1, api.ErrForm}, {apart(), api.Cert{Lemmas: []api.Lemma{odd}, Refute: make([][]int, 16384)}, -1, api.ErrLong},
		{apart(), api.Cert{Lemmas: []api.Lemma{lemma(c(5)), wrong}}, 0, api.ErrForm}, {apart(), api.Cert{Lemmas: []api.Lemma{odd, lemma(c(0))}}, 1, api.ErrForm}, {apart(), api.Cert{Lemmas: []api.Lemma{lemma(c(1, -5))}}, 0, api.ErrForm}, // 5 is a variable, but no atom
		{apart(), api.Cert{Lemmas: []api.Lemma{lemma(c(-1), step(1), step(2, 0, 1))}}, 0, api.ErrDiv}, {apart(), api.Cert{Lemmas: []api.Lemma{lemma(c(-1), step(1, 1, 1))}}, 0, api.ErrLine}, {apart(), api.Cert{Lemmas: []api.Lemma{odd, lemma(c(-1), step(1, 0, 1), step(1, 0, 0))}}, 1, api.ErrArg},
		{apart(), api.Cert{Lemmas: []api.Lemma{lemma(c(-1), make([]api.Step, 4097)...)}}, 0, api.ErrLong}, {apart(), api.Cert{Lemmas: []api.Lemma{lemma(slices.Repeat(c(-1), 4097))}}, 0, api.ErrLong},
		{far, api.Cert{Lemmas: []api.Lemma{lemma(c(-1)), lemma(c(1))}}, 0, api.ErrOpen}, {far, api.Cert{Lemmas: []api.Lemma{lemma(c(1))}}, 0, api.ErrFar},
		{apart(), api.Cert{Lemmas: make([]api.Lemma, 4097)}, -1, api.ErrLong}, {apart(), api.Cert{Lemmas: make([]api.Lemma, 4096)}, 0, api.ErrOpen},
		{node(api.FNot), api.Cert{Lemmas: make([]api.Lemma, 4097)}, -1, api.ErrForm}, {le(-api.MaxCoef, 0, -1), api.Cert{Refute: empty}, -1, api.ErrFar}, {wide(4096), api.Cert{Refute: empty}, -1, api.ErrLong},
	} {
		err := cert.Check(x.f, x.c)
		if x.code == 0 && err != nil || x.code != 0 && (!errors.Is(err, x.code) || at(err) != x.at || x.at < 0 && err != error(x.code)) {
			t.Error(i, err)
		}
		var s, inner *api.Spot
		if errors.As(err, &s) && errors.As(s.Err, &inner) {
			t.Error(i, "a Spot in a Spot")
		}
	}
}

func TestCnfTooLong(t *testing.T) { // P10.2: cnf.Make's error
	f := node(api.FAnd)
	for i := 0; i < 2000; i++ { // 4000 literals of five clauses each
		f.Kids = append(f.Kids, eq(0, i, 1))
	}
	if err := cert.Check(f, api.Cert{}); err != error(api.ErrOpen) {
		t.Error(err)
	}
	for i := range f.Kids {
		f.Kids[i] = api.Form{Kind: api.FEq, L: form(0, 2*i, 1)}
	}
	for len(f.Kids) < 4095 {
		f.Kids = append(f.Kids, eq(1, 2*len(f.Kids), 1))
	}
	if err := cert.Check(f, api.Cert{Lemmas: make([]api.Lemma, 4097)}); err != error(api.ErrLong) {
		t.Error(err)
	}
}

func TestFalse(t *testing.T) { // P10.4: what is taken is false, whatever the certificate
	r := rand.New(rand.NewSource(13))
	taken := 0
	for i := 0; i < 30000; i++ {
		lit := func() api.Form { return le(r.Intn(3)-1, 0, 1-2*r.Intn(2)) }
		f := node(api.FAnd, lit(), lit(), node(api.FOr, lit(), lit()))
		var crt api.Cert
		for k := r.Intn(3); k > 0; k-- {
			var l api.Lemma
			for j := 1 + r.Intn(2); j > 0; j-- {
				l.Lits = append(l.Lits, (1+r.Intn(4))*(1-2*r.Intn(2)))
			}
			l.Steps = []api.Step{step(1, 0, 1, len(l.Lits)-1, 1)}
			if cert.Check(f, api.Cert{Lemmas: []api.Lemma{l}}) == error(api.ErrOpen) {
				crt.Lemmas = append(crt.Lemmas, l)
			}
		}
		crt.Refute = [][]int{{1 + r.Intn(5)}, {}}[r.Intn(2):]
		if cert.Check(f, crt) != nil {
			continue
		}
		taken++
		for v := -5; v <= 5; v++ {
			if is, _ := formula.Value(f, []int{v}); is {
				t.Fatal(f, crt, v)
			}
		}
	}
	if taken < 300 {
		t.Error(taken)
	}
}

func TestMemory(t *testing.T) { // P10.3, R2
	made := func() (api.Form, api.Cert, []api.Lin) {
		return apart(), api.Cert{Lemmas: []api.Lemma{lemma(c(-1, 2, -3, 4), step(2, 0, 1, 3, 1), step(2, 1, 1, 2, 1), step(1, 4, 1, 5, 1))}, Refute: [][]int{{}}}, []api.Lin{form(0, 0, 1, 1, -2)}
	}
	f, crt, atoms := made()
	p, _ := cert.Premises(atoms, c(-1, 1))
	p[0].T[0].K = 9
	for i := 0; i < 2; i++ {
		if err := cert.Check(f, crt); err != nil {
			t.Error(err)
		}
	}
	wantF, wantC, wantA := made()
	if !reflect.DeepEqual(f, wantF) || !reflect.DeepEqual(crt, wantC) || !reflect.DeepEqual(atoms, wantA) {
		t.Error("changed, or shared")
	}
}
