package norm_test

import (
	"math"
	"math/rand"
	"reflect"
	"testing"

	"trammel/api"
	"trammel/formula"
	"trammel/norm"
)

func le(c int, vk ...int) api.Form { return api.Form{Kind: api.FLe, L: form(c, vk...)} }
func eq(c int, vk ...int) api.Form { return api.Form{Kind: api.FEq, L: form(c, vk...)} }
func not(f api.Form) api.Form      { return node(api.FNot, f) }
func yes() api.Form                { return node(api.FTrue) }
func no() api.Form                 { return node(api.FFalse) }

func node(kind int, kids ...api.Form) api.Form {
	return api.Form{Kind: kind, Kids: kids}
}

func form(c int, vk ...int) api.Lin {
	l := api.Lin{C: c}
	for i := 0; i+1 < len(vk); i += 2 {
		l.T = append(l.T, api.Mono{V: vk[i], K: vk[i+1]})
	}
	return l
}

func same(a, b api.Form) bool {
	if a.Kind != b.Kind || a.L.C != b.L.C || len(a.L.T) != len(b.L.T) || len(a.Kids) != len(b.Kids) {
		return false
	}
	for i := range a.L.T {
		if a.L.T[i] != b.L.T[i] {
			return false
		}
	}
	for i := range a.Kids {
		if !same(a.Kids[i], b.Kids[i]) {
			return false
		}
	}
	return true
}

func TestLiteral(t *testing.T) { // P3.1
	const c = api.MaxCoef
	for i, x := range []struct {
		l    api.Lin
		want api.Form
		err  error
	}{
		{form(3, 0, 2), le(2, 0, 1), nil}, {form(3, 0, -2), not(le(-1, 0, 1)), nil},
		{form(0), yes(), nil}, {form(-5), yes(), nil}, {form(1), no(), nil},
		{form(-3, 0, 2), le(-1, 0, 1), nil}, {form(-4, 0, 2), le(-2, 0, 1), nil}, {form(4, 0, 2), le(2, 0, 1), nil},
		{form(5, 1, 6, 2, -9), le(2, 1, 2, 2, -3), nil}, {form(5, 1, -6, 2, 9), not(le(-1, 1, 2, 2, -3)), nil},
		{form(-5, 1, -6, 2, 9), not(le(2, 1, 2, 2, -3)), nil}, {form(7, 3, 2, 4, 3), le(7, 3, 2, 4, 3), nil},
		{form(-c, 0, 1), le(-c, 0, 1), nil}, {form(c, 0, -1), not(le(1-c, 0, 1)), nil},
		{form(-c, 0, -1), api.Form{}, api.ErrFar}, {form(1-c, 0, -1), not(le(c, 0, 1)), nil}, {form(-c, 0, -2), not(le(1+c/2, 0, 1)), nil},
		{form(c, 0, c), le(1, 0, 1), nil}, {form(1, 0, c, 1, -c), le(1, 0, 1, 1, -1), nil}, {form(-1, 0, -c), not(le(1, 0, 1)), nil},
		{form(0, 0, 0), api.Form{}, api.ErrForm}, {form(c + 1), api.Form{}, api.ErrForm}, {form(0, 1, 1, 0, 1), api.Form{}, api.ErrForm},
		{form(0, 0, math.MinInt), api.Form{}, api.ErrForm},
	} {
		f, err := norm.Literal(x.l)
		if err != x.err || !same(f, x.want) || err == nil && !norm.Is(f) {
			t.Error(i, f, err)
		}
	}
}

func TestNorm(t *testing.T) { // P3.2
	a, b := le(3, 0, 2), le(3, 0, -2) // x0 and 2 at most 0; not (x0 less 1 at most 0)
	na, nb := le(2, 0, 1), not(le(-1, 0, 1))
	for i, x := range []struct{ f, want api.Form }{
		{yes(), yes()}, {no(), no()}, {not(yes()), no()}, {not(no()), yes()}, {not(not(no())), no()},
		{a, na}, {b, nb}, {not(a), not(na)}, {not(b), le(-1, 0, 1)}, {not(le(0)), no()}, {not(le(1)), yes()},
		{eq(3, 0, 2), node(api.FAnd, na, not(le(2, 0, 1)))},
		{eq(-4, 0, 2), node(api.FAnd, le(-2, 0, 1), not(le(-1, 0, 1)))},
		{eq(4, 0, -1), node(api.FAnd, not(le(-3, 0, 1)), le(-4, 0, 1))},
		{not(eq(-4, 0, 2)), node(api.FOr, not(le(-2, 0, 1)), le(-1, 0, 1))},
		{eq(0), node(api.FAnd, yes(), yes())}, {eq(2), node(api.FAnd, no(), yes())}, {not(eq(2)), node(api.FOr, yes(), no())}, {eq(-2), node(api.FAnd, yes(), no())},
		{node(api.FAnd, a, b, yes()), node(api.FAnd, na, nb, yes())}, {node(api.FOr, a, b), node(api.FOr, na, nb)},
		{not(node(api.FAnd, a, b)), node(api.FOr, not(na), le(-1, 0, 1))}, {not(node(api.FOr, a, not(b))), node(api.FAnd, not(na), nb)},
		{node(api.FAnd), node(api.FAnd)}, {not(node(api.FAnd)), node(api.FOr)}, {not(node(api.FOr)), node(api.FAnd)},
		{node(api.FOr, node(api.FAnd, a, not(node(api.FOr, b)))), node(api.FOr, node(api.FAnd, na, node(api.FAnd, le(-1, 0, 1))))},
	} {
		f, err := norm.Norm(x.f)
		if err != nil || !same(f, x.want) {
			t.Error(i, f, err)
		}
	}
}

func TestNormErrors(t *testing.T) { // P3.2, R1
	const c = api.MaxCoef
	deep := le(-c, 0, -1)
	for i := 0; i < 64; i++ {
		deep = not(deep)
	}
	far := le(-c, 0, -1)
	for i, x := range []struct {
		f   api.Form
		err error
	}{
		{far, api.ErrFar}, {not(far), api.ErrFar}, {eq(-c, 0, -1), api.ErrFar}, {eq(c, 0, 1), api.ErrFar}, {eq(-c, 0, 1), nil},
		{node(api.FOr, yes(), node(api.FAnd, le(0), far)), api.ErrFar},
		{node(api.FAnd, far, node(api.FNot)), api.ErrForm}, {deep, api.ErrDepth}, {node(api.FAnd, make([]api.Form, 4096)...), api.ErrLong},
		{node(api.FAnd, node(7), far), api.ErrForm}, {le(c+1, 0, 1), api.ErrForm},
	} {
		f, err := norm.Norm(x.f)
		if err != x.err || err != nil && !same(f, api.Form{}) {
			t.Error(i, f, err)
		}
	}
}

func ands(n int, f api.Form) api.Form {
	for ; n > 0; n-- {
		f = node(api.FAnd, f)
	}
	return f
}

func TestIs(t *testing.T) { // P3.3
	a := le(2, 0, 1)
	many := func(n int, f api.Form) api.Form {
		l := node(api.FOr)
		for ; n > 0; n-- {
			l.Kids = append(l.Kids, f)
		}
		return l
	}
	for i, f := range []api.Form{
		yes(), no(), a, not(a), node(api.FAnd), node(api.FOr), node(api.FOr, yes(), node(api.FAnd, a, not(a))),
		le(-7, 3, 2, 4, -3), ands(127, a), ands(126, not(a)), many(20479, a), node(api.FAnd, many(10238, not(a)), yes(), yes()),
	} {
		if !norm.Is(f) {
			t.Error(i, "is normalized")
		}
	}
	with := func(f api.Form, l api.Lin) api.Form {
		f.L = l
		return f
	}
	for i, f := range []api.Form{
		eq(2, 0, 1), not(not(a)), not(yes()), not(no()), not(node(api.FAnd)), not(eq(1, 0, 1)), le(1), le(2, 0, 2), le(2, 0, -1), le(2, 0, 4, 1, 6), le(2, 0, -2, 1, 3),
		le(api.MaxCoef+1, 0, 1), le(0, 0, 1, 1, 0), le(0, 1, 1, 0, 1), node(api.FNot), node(api.FNot, a, a), node(7), node(-1),
		node(api.FTrue, a), node(api.FFalse, a), {Kind: api.FLe, L: a.L, Kids: []api.Form{a}},
		with(yes(), form(1)), with(no(), form(0, 0, 1)), with(not(a), form(1)), with(node(api.FAnd, a), form(1)), with(node(api.FOr), form(0, 0, 1)),
		node(api.FAnd, a, node(api.FOr, a, eq(0))), ands(128, a), ands(127, not(a)), ands(9999, a), many(20480, a), node(api.FAnd, many(10238, not(a)), yes(), yes(), yes()),
	} {
		if norm.Is(f) {
			t.Error(i, "isn't normalized")
		}
	}
}

func random(r *rand.Rand, deep int) api.Form {
	switch k := r.Intn(7); {
	case k < 2 && deep < 3:
		return node(k)
	case k < 4 || deep == 0:
		f := api.Form{Kind: api.FLe + r.Intn(2), L: form(r.Intn(9) - 4)}
		for v := 0; v < 3; v++ {
			if k := r.Intn(9) - 4; k != 0 {
				f.L.T = append(f.L.T, api.Mono{V: v, K: k})
			}
		}
		return f
	case k == 4:
		return not(random(r, deep-1))
	default:
		f := node(k)
		for n := r.Intn(4); n > 0; n-- {
			f.Kids = append(f.Kids, random(r, deep-1))
		}
		return f
	}
}

func TestMeaning(t *testing.T) { // P3.5
	r := rand.New(rand.NewSource(3))
	for i := 0; i < 2000; i++ {
		f := random(r, 4)
		n, err := norm.Norm(f)
		if err != nil || !norm.Is(n) {
			t.Fatal(f, n, err)
		}
		for j := 0; j < 5; j++ {
			values := []int{r.Intn(5) - 2, r.Intn(5) - 2, r.Intn(5) - 2}
			a, _ := formula.Value(f, values)
			// What is normalized may be deeper and longer than formula.Value takes, but not these.
			if b, err := formula.Value(n, values); a != b || err != nil {
				t.Fatal(f, n, values, a, b, err)
			}
		}
	}
	deep := eq(3, 0, 2)
	for i := 0; i < 63; i++ {
		deep = node(api.FOr, deep)
	}
	long := node(api.FAnd)
	for i := 0; i < 4095; i++ {
		long.Kids = append(long.Kids, eq(3, 1, -2))
	}
	for _, f := range []api.Form{deep, long} {
		if n, err := norm.Norm(f); err != nil || !norm.Is(n) {
			t.Error(err)
		}
	}
}

func TestMemory(t *testing.T) { // P3.4, R2
	make1 := func() api.Form {
		return not(node(api.FOr, eq(4, 0, 2, 3, -6), le(3, 1, -2), node(api.FAnd, le(4, 2, 2))))
	}
	f := make1()
	norm.Norm(f)
	norm.Literal(f.Kids[0].Kids[1].L)
	norm.Is(f)
	if !reflect.DeepEqual(f, make1()) {
		t.Error("changed")
	}
	a, _ := norm.Norm(f)
	b, _ := norm.Norm(f)
	if !same(a, b) {
		t.Error("another answer")
	}
}
