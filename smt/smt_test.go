package smt_test

import (
	"math"
	"math/rand"
	"reflect"
	"testing"

	"trammel/api"
	"trammel/cert"
	"trammel/formula"
	"trammel/smt"
)

func le(c int, vk ...int) api.Form { return api.Form{Kind: api.FLe, L: form(c, vk...)} }
func eq(c int, vk ...int) api.Form { return api.Form{Kind: api.FEq, L: form(c, vk...)} }
func not(f api.Form) api.Form      { return node(api.FNot, f) }
func and(f ...api.Form) api.Form   { return node(api.FAnd, f...) }
func or(f ...api.Form) api.Form    { return node(api.FOr, f...) }

func node(kind int, kids ...api.Form) api.Form {
	return api.Form{Kind: kind, Kids: kids}
}

func form(c int, vk ...int) api.Lin {
	l := api.Lin{C: c}
	for i := 0; i+1 < len(vk); i += 2 {
		l.T = append(l.T, api.Mono{V: vk[i], K: vk[i+1]})
	}
	return l
}

// check holds what was found against P11.1, and answers its Kind.
func check(t *testing.T, f api.Form, fuel int) int {
	t.Helper()
	a, err := smt.Solve(f, fuel)
	if err != nil {
		t.Fatal(f, err)
	}
	switch a.Kind {
	case api.Unsat:
		if err := cert.Check(f, a.Cert); err != nil || len(a.Values) != 0 {
			t.Fatal(f, a, err)
		}
	case api.Sat:
		for _, v := range a.Values {
			if v < -api.MaxValue || v > api.MaxValue {
				t.Fatal(f, a)
			}
		}
		if is, err := formula.Value(f, a.Values); !is || err != nil || len(a.Cert.Lemmas)+len(a.Cert.Refute) != 0 {
			t.Fatal(f, a, err)
		}
	default:
		if !reflect.DeepEqual(a, api.Answer{}) {
			t.Fatal(a)
		}
	}
	return a.Kind
}

func many(n int, make func(i int) api.Form) []api.Form {
	var l []api.Form
	for i := 0; i < n; i++ {
		l = append(l, make(i))
	}
	return l
}

func TestErrors(t *testing.T) { // P11.1, R1, R3
	deep := le(0)
	for i := 0; i < 64; i++ {
		deep = not(deep)
	}
	for i, x := range []struct {
		f   api.Form
		err error
	}{
		{deep, api.ErrDepth}, {and(make([]api.Form, 4096)...), api.ErrLong}, {node(api.FNot), api.ErrForm}, {le(0, 0, 0), api.ErrForm}, {node(9), api.ErrForm},
		{le(-api.MaxCoef, 0, -1), api.ErrFar}, {or(node(api.FTrue), not(le(-api.MaxCoef, 0, -1))), api.ErrFar},
		{and(many(4095, func(i int) api.Form { return eq(0, i, 1) })...), api.ErrLong}, // too many variables of clauses
	} {
		for _, fuel := range []int{1000, 0, math.MinInt} {
			if a, err := smt.Solve(x.f, fuel); err != x.err || !reflect.DeepEqual(a, api.Answer{}) {
				t.Error(i, a, err)
			}
		}
	}
}

func TestNoFuel(t *testing.T) { // P11.1
	for _, fuel := range []int{0, -1, math.MinInt} {
		for _, f := range []api.Form{{}, node(api.FFalse), le(0, 0, 1), and(le(0, 0, 1), le(1, 0, -1))} {
			if k := check(t, f, fuel); k != api.Gave {
				t.Error(f, k)
			}
		}
	}
}

func TestExamples(t *testing.T) { // P11.1
	for i, x := range []struct {
		f    api.Form
		kind int
	}{
		{and(le(0, 0, 1), le(1, 0, -1)), api.Unsat}, {eq(-3, 0, 1), api.Sat},
		{api.Form{}, api.Sat}, {node(api.FFalse), api.Unsat}, {or(), api.Unsat}, {and(), api.Sat}, {le(1), api.Unsat}, {eq(0), api.Sat},
		{and(le(-1, 0, 1), le(2, 0, -1)), api.Unsat}, {and(le(-2, 0, 1), le(2, 0, -1)), api.Sat},
		{and(eq(-3, 0, 1), not(eq(-3, 0, 1))), api.Unsat}, {and(eq(-1, 0, 1, 1, -1), not(eq(-3, 1, 1)), eq(-4, 0, 1)), api.Unsat},
	} {
		if k := check(t, x.f, 1000); k != x.kind {
			t.Error(i, x.f, k)
		}
	}
	if a, _ := smt.Solve(eq(-3, 0, 1), 1000); len(a.Values) < 1 || a.Values[0] != 3 {
		t.Error(a)
	}
}

func random(r *rand.Rand, deep int) api.Form {
	switch k := r.Intn(8); {
	case k < 2 && deep < 2:
		return node(k)
	case k < 4 || deep == 0:
		f := api.Form{Kind: api.FLe + r.Intn(2), L: form(r.Intn(7) - 3)}
		for v := 0; v < 3; v++ {
			if k := r.Intn(5) - 2; k != 0 && r.Intn(3) > 0 {
				f.L.T = append(f.L.T, api.Mono{V: v, K: k})
			}
		}
		return f
	case k == 4:
		return not(random(r, deep-1))
	default:
		f := node(api.FAnd + k%2)
		for n := r.Intn(5); n > 0; n-- {
			f.Kids = append(f.Kids, random(r, deep-1))
		}
		return f
	}
}

func TestRightAnswers(t *testing.T) { // P11.1, P11.3: held against all values in a small box
	r := rand.New(rand.NewSource(14))
	for i := 0; i < 1500; i++ {
		f := and(random(r, 3), random(r, 3), random(r, 3), random(r, 3))
		for v := 0; v < 3; v++ {
			f.Kids = append(f.Kids, le(-3, v, 1), le(-3, v, -1))
		}
		want := api.Unsat
		for n := 0; n < 343 && want == api.Unsat; n++ {
			if is, _ := formula.Value(f, []int{n%7 - 3, n/7%7 - 3, n/49 - 3}); is {
				want = api.Sat
			}
		}
		for _, fuel := range []int{1, 3, 1000} {
			k := check(t, f, fuel)
			if k != api.Gave && k != want {
				t.Fatal(f, k)
			}
		}
	}
}

func TestMemory(t *testing.T) { // P11.2, R2
	made := func() api.Form {
		return and(or(eq(-3, 0, 1), eq(-4, 0, 1)), not(eq(-3, 0, 1)), le(-2, 0, 1, 1, 1), le(-1, 1, -1))
	}
	f := made()
	a, err := smt.Solve(f, 1000)
	b, _ := smt.Solve(f, 1000)
	if err != nil || !reflect.DeepEqual(f, made()) || !reflect.DeepEqual(a, b) {
		t.Error("changed, or another answer")
	}
}
