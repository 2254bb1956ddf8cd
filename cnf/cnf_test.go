package cnf_test

import (
	"math/rand"
	"reflect"
	"slices"
	"testing"

	"trammel/api"
	"trammel/cnf"
	"trammel/formula"
	"trammel/lin"
	"trammel/norm"
	"trammel/prop"
)

func le(c int, vk ...int) api.Form { return api.Form{Kind: api.FLe, L: form(c, vk...)} }
func not(f api.Form) api.Form      { return node(api.FNot, f) }

func node(kind int, kids ...api.Form) api.Form {
	return api.Form{Kind: kind, Kids: kids}
}

func form(c int, vk ...int) api.Lin {
	l := api.Lin{C: c}
	for i := 0; i+1 < len(vk); i += 2 {
		l.T = append(l.T, api.Mono{V: vk[i], K: vk[i+1]})
	}
	return l
}

func cl(c ...[]int) [][]int { return c }
func c(l ...int) []int      { return l }

func equal(a, b [][]int) bool {
	return slices.EqualFunc(a, b, func(x, y []int) bool { return slices.Equal(x, y) })
}

func TestMake(t *testing.T) { // P9.1
	a, b, d := le(0, 0, 1), le(1, 0, 1), le(0, 1, 1, 2, -3)
	yes, no := node(api.FTrue), node(api.FFalse)
	for i, x := range []struct {
		f       api.Form
		n       int
		atoms   []api.Form
		clauses [][]int
	}{
		{yes, 1, nil, cl(c(1), c(1))}, {no, 1, nil, cl(c(-1), c(1))},
		{a, 1, []api.Form{a}, cl(c(1))}, {not(a), 1, []api.Form{a}, cl(c(-1))},
		{node(api.FAnd, a, not(a)), 2, []api.Form{a}, cl(c(-2, 1), c(-2, -1), c(2, -1, 1), c(2))},
		{node(api.FOr, a, not(b), a), 3, []api.Form{a, b}, cl(c(3, -1), c(3, 2), c(3, -1), c(-3, 1, -2, 1), c(3))},
		{node(api.FAnd), 1, nil, cl(c(1), c(1))}, {node(api.FOr), 1, nil, cl(c(-1), c(1))},
		{node(api.FAnd, yes, b), 3, []api.Form{b}, cl(c(2), c(-3, 2), c(-3, 1), c(3, -2, -1), c(3))},
		{node(api.FOr, node(api.FAnd, d, no), node(api.FOr, b, d, a), yes, not(d)), 8, []api.Form{d, b, a}, cl(
			c(-4), c(-5, 1), c(-5, 4), c(5, -1, -4), // 4: no; 5: the FAnd
			c(6, -2), c(6, -1), c(6, -3), c(-6, 2, 1, 3), c(7), // 6: the FOr; 7: yes
			c(8, -5), c(8, -6), c(8, -7), c(8, 1), c(-8, 5, 6, 7, -1), c(8))},
		{node(api.FAnd, le(0, 1, 11, 12, 1), le(0, 11, 1, 12, 1)), 3, []api.Form{le(0, 1, 11, 12, 1), le(0, 11, 1, 12, 1)}, cl(c(-3, 1), c(-3, 2), c(3, -1, -2), c(3))},
		{node(api.FAnd, le(1, 23, 1), le(12, 3, 1)), 3, []api.Form{le(1, 23, 1), le(12, 3, 1)}, cl(c(-3, 1), c(-3, 2), c(3, -1, -2), c(3))},
		{node(api.FAnd, le(0, 1, 1, 23, 1), le(0, 1, 12, 3, 1)), 3, []api.Form{le(0, 1, 1, 23, 1), le(0, 1, 12, 3, 1)}, cl(c(-3, 1), c(-3, 2), c(3, -1, -2), c(3))},
		{node(api.FAnd, node(api.FAnd, a), node(api.FAnd, a)), 4, []api.Form{a}, cl(c(-2, 1), c(2, -1), c(-3, 1), c(3, -1), c(-4, 2), c(-4, 3), c(4, -2, -3), c(4))}, // each has its own variable
	} {
		m, err := cnf.Make(x.f)
		if err != nil || m.N != x.n || !equal(m.Clauses, x.clauses) || len(m.Atoms) != len(x.atoms) {
			t.Error(i, m, err)
			continue
		}
		for j := range m.Atoms {
			if !lin.Same(m.Atoms[j], x.atoms[j].L) {
				t.Error(i, m.Atoms)
			}
		}
	}
}

func many(kind, n int, f func(i int) api.Form) api.Form {
	l := node(kind)
	for i := 0; i < n; i++ {
		l.Kids = append(l.Kids, f(i))
	}
	return l
}

func TestErrors(t *testing.T) { // P9.1, R1, R3
	atoms := func(i int) api.Form { return le(0, i, 1) }
	yes := func(i int) api.Form { return node(api.FTrue) }
	same := func(i int) api.Form { return le(0, 0, 1) }
	deep := le(0, 0, 1)
	for i := 0; i < 128; i++ {
		deep = node(api.FAnd, deep)
	}
	for i, x := range []struct {
		f   api.Form
		err error
	}{
		{le(0), api.ErrForm}, {le(0, 0, 2), api.ErrForm}, {api.Form{Kind: api.FEq}, api.ErrForm}, {not(node(api.FTrue)), api.ErrForm}, {not(not(le(0, 0, 1))), api.ErrForm}, {node(9), api.ErrForm}, {deep, api.ErrForm},
		{many(api.FAnd, 20480, same), api.ErrForm}, {node(api.FAnd, many(api.FAnd, 9000, atoms), node(9)), api.ErrForm},
		{many(api.FAnd, 8191, atoms), nil}, {many(api.FAnd, 8192, atoms), api.ErrLong}, {many(api.FAnd, 8191, yes), nil}, {many(api.FOr, 8192, yes), api.ErrLong},
		{many(api.FAnd, 16382, same), nil}, {many(api.FAnd, 16383, same), api.ErrLong}, // one clause too many
		{many(api.FAnd, 20479, same), api.ErrLong},
	} {
		m, err := cnf.Make(x.f)
		if err != x.err || err != nil && !reflect.DeepEqual(m, api.Cnf{}) || err == nil && prop.Check(m.N, m.Clauses) != nil {
			t.Error(i, err)
		}
	}
}

func random(r *rand.Rand, deep int) api.Form {
	switch k := r.Intn(7); {
	case k < 2 && deep < 3:
		return node(k)
	case k < 4 || deep == 0:
		f := api.Form{Kind: api.FLe + r.Intn(2), L: form(r.Intn(5) - 2)}
		for v := 0; v < 2; v++ {
			if k := r.Intn(5) - 2; k != 0 {
				f.L.T = append(f.L.T, api.Mono{V: v, K: k})
			}
		}
		return f
	case k == 4:
		return not(random(r, deep-1))
	default:
		return many(k, r.Intn(4), func(int) api.Form { return random(r, deep-1) })
	}
}

// parts are the values of what has a variable of its own, in their order.
func parts(f api.Form, values []int, l []bool) []bool {
	for _, k := range f.Kids {
		l = parts(k, values, l)
	}
	if f.Kind != api.FLe && f.Kind != api.FNot {
		v, _ := formula.Value(f, values)
		l = append(l, v)
	}
	return l
}

func TestMeaning(t *testing.T) { // P9.3
	r := rand.New(rand.NewSource(12))
	for i := 0; i < 2000; i++ {
		f, err := norm.Norm(random(r, 4))
		if err != nil {
			t.Fatal(err)
		}
		m, err := cnf.Make(f)
		if err != nil {
			t.Fatal(f, err)
		}
		values := []int{r.Intn(5) - 2, r.Intn(5) - 2}
		var is []bool
		for _, a := range m.Atoms {
			n, _ := lin.Value(a, values)
			is = append(is, n <= 0)
		}
		is = parts(f, values, is)
		last := len(m.Clauses) - 1
		want, _ := formula.Value(f, values)
		if len(is) != m.N || !prop.Value(m.Clauses[:last], is) || prop.Value(m.Clauses, is) != want {
			t.Fatal(f, m, values)
		}
	}
}

func TestMemory(t *testing.T) { // P9.2, R2
	made := func() api.Form {
		return node(api.FOr, le(1, 0, 1, 3, 4), node(api.FAnd, not(le(2, 3, 1)), le(1, 0, 1, 3, 4)))
	}
	f := made()
	a, _ := cnf.Make(f)
	a.Atoms[0].T[0].K, a.Clauses[0][0] = 9, 9
	b, _ := cnf.Make(f)
	d, _ := cnf.Make(f)
	if !reflect.DeepEqual(f, made()) || !reflect.DeepEqual(b, d) || reflect.DeepEqual(a, b) {
		t.Error("changed, or kept")
	}
}
