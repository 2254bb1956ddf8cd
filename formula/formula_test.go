package formula_test

import (
	"math"
	"math/rand"
	"reflect"
	"slices"
	"testing"

	"trammel/api"
	"trammel/formula"
)

func le(c int, vk ...int) api.Form { return api.Form{Kind: api.FLe, L: form(c, vk...)} }
func eq(c int, vk ...int) api.Form { return api.Form{Kind: api.FEq, L: form(c, vk...)} }
func node(kind int, kids ...api.Form) api.Form {
	return api.Form{Kind: kind, Kids: kids}
}

func form(c int, vk ...int) api.Lin {
	l := api.Lin{C: c}
	for i := 0; i+1 < len(vk); i += 2 {
		l.T = append(l.T, api.Mono{V: vk[i], K: vk[i+1]})
	}
	return l
}

func nots(n int, f api.Form) api.Form {
	for ; n > 0; n-- {
		f = node(api.FNot, f)
	}
	return f
}

func wide(n int) api.Form { // of size n
	return node(api.FAnd, make([]api.Form, n-1)...)
}

func bad() []api.Form {
	t, l := api.Form{}, form(1)
	return []api.Form{
		node(api.FNot), node(api.FNot, t, t), node(api.FTrue, t), node(api.FFalse, t),
		{Kind: api.FLe, Kids: []api.Form{t}}, {Kind: api.FEq, Kids: []api.Form{t}},
		{Kind: 7}, {Kind: -1}, {Kind: math.MinInt},
		{L: l}, {Kind: api.FFalse, L: l}, {Kind: api.FNot, L: l, Kids: []api.Form{t}}, {Kind: api.FAnd, L: l}, {Kind: api.FOr, L: l},
		{L: form(0, 0, 1)}, {Kind: api.FAnd, L: form(0, 0, 1)},
		le(0, 0, 0), eq(api.MaxCoef + 1), eq(0, 1, 1, 0, 1),
		node(api.FAnd, t, node(api.FOr, t, node(api.FNot))),
	}
}

func TestCheck(t *testing.T) { // P2.1
	for i, f := range []api.Form{
		{}, node(api.FFalse), le(3, 0, 1), eq(0), nots(1, eq(1, 5, -2)), node(api.FAnd), node(api.FOr),
		node(api.FOr, le(1), node(api.FAnd, eq(0), eq(1))),
		nots(63, le(1)), wide(4096), node(api.FOr, wide(2000), wide(2095)),
	} {
		if err := formula.Check(f); err != nil {
			t.Error(i, err)
		}
	}
	for i, f := range bad() {
		if err := formula.Check(f); err != error(api.ErrForm) {
			t.Error(i, err)
		}
	}
	for i, f := range []api.Form{nots(64, le(1)), nots(5000, le(1)), node(api.FAnd, wide(5000), nots(63, le(1))), node(api.FTrue, nots(64, le(0, 0, 0)))} {
		if err := formula.Check(f); err != error(api.ErrDepth) {
			t.Error(i, err)
		}
	}
	for i, f := range []api.Form{wide(4097), node(api.FOr, wide(2000), wide(2096)), node(api.FAnd, node(7), wide(4096))} {
		if err := formula.Check(f); err != error(api.ErrLong) {
			t.Error(i, err)
		}
	}
}

func TestValue(t *testing.T) { // P2.2
	const v = api.MaxValue
	for i, x := range []struct {
		f      api.Form
		values []int
		is     bool
		err    error
	}{
		{api.Form{}, nil, true, nil}, {node(api.FFalse), nil, false, nil},
		{le(-3, 0, 1), []int{3}, true, nil}, {le(-3, 0, 1), []int{4}, false, nil}, {le(-3, 0, 1), []int{2}, true, nil}, {le(-3, 0, 1), nil, true, nil},
		{eq(-3, 0, 1), []int{3}, true, nil}, {eq(-3, 0, 1), []int{2}, false, nil}, {eq(-3, 0, 1), []int{4}, false, nil},
		{nots(1, le(-3, 0, 1)), []int{4}, true, nil}, {nots(2, le(-3, 0, 1)), []int{4}, false, nil},
		{node(api.FAnd), nil, true, nil}, {node(api.FOr), nil, false, nil},
		{node(api.FAnd, le(0), le(1)), nil, false, nil}, {node(api.FOr, le(1), le(0)), nil, true, nil},
		{node(api.FAnd, le(0), le(0)), nil, true, nil}, {node(api.FOr, le(1), le(1)), nil, false, nil},
		{node(api.FOr, le(0), le(0, 1, 1)), []int{0, v + 1}, false, api.ErrArg}, // wherever it stands
		{node(api.FAnd, le(1), le(0, 1, 1)), []int{0, -v - 1}, false, api.ErrArg},
		{node(api.FAnd, le(0, 1, 1), le(1)), []int{0, math.MinInt}, false, api.ErrArg},
		{nots(3, le(0, 0, 1)), []int{v + 1}, false, api.ErrArg},
		{le(0, 0, 1), []int{-v}, true, nil}, {le(0, 0, -1), []int{v, v + 1}, true, nil},
		{node(api.FNot), []int{v + 1}, false, api.ErrForm}, {nots(64, le(0, 0, 1)), []int{v + 1}, false, api.ErrDepth}, {wide(4097), nil, false, api.ErrLong},
	} {
		if is, err := formula.Value(x.f, x.values); is != x.is || err != x.err {
			t.Error(i, is, err)
		}
	}
}

func TestVarsAndSize(t *testing.T) { // P2.3
	f := node(api.FOr, eq(1, 4, 1, 9, 2), nots(2, le(0, 2, 1, 9, 3)), node(api.FAnd, le(0, 0, 1), le(0, 4, 5)))
	if v := formula.Vars(f); !slices.Equal(v, []int{0, 2, 4, 9}) {
		t.Error(v)
	}
	if n := formula.Size(f); n != 8 {
		t.Error(n)
	}
	for _, x := range []struct {
		f api.Form
		n int
	}{{api.Form{}, 1}, {le(0), 1}, {nots(63, le(0)), 64}, {wide(4096), 4096}, {wide(4097), 0}, {nots(64, le(0)), 0}} {
		if n := formula.Size(x.f); n != x.n || len(formula.Vars(x.f)) != 0 {
			t.Error(n, x.n)
		}
	}
	for i, f := range bad() {
		f = node(api.FAnd, le(0, 3, 1), f)
		if formula.Size(f) != 0 || len(formula.Vars(f)) != 0 {
			t.Error(i)
		}
	}
}

func random(r *rand.Rand, deep int) api.Form {
	switch k := r.Intn(7); {
	case k < 2 && deep < 3:
		return node(k)
	case k < 4 || deep == 0:
		return api.Form{Kind: api.FLe + r.Intn(2), L: form(r.Intn(5)-2, 0, r.Intn(2)+1, 1+r.Intn(3), r.Intn(2)-2)}
	case k == 4:
		return node(api.FNot, random(r, deep-1))
	default:
		f := node(k)
		for n := r.Intn(4); n > 0; n-- {
			f.Kids = append(f.Kids, random(r, deep-1))
		}
		return f
	}
}

func holds(f api.Form, values []int) bool { // what P2.2 says, written once more
	n := f.L.C
	for _, m := range f.L.T {
		n += m.K * values[m.V]
	}
	yes := 0
	for _, k := range f.Kids {
		if holds(k, values) {
			yes++
		}
	}
	return []bool{true, false, n <= 0, n == 0, yes == 0, yes == len(f.Kids), yes > 0}[f.Kind]
}

func TestMeaning(t *testing.T) { // P2.2, P2.5
	r := rand.New(rand.NewSource(2))
	for i := 0; i < 3000; i++ {
		f := random(r, 4)
		values := []int{r.Intn(5) - 2, r.Intn(5) - 2, r.Intn(5) - 2, r.Intn(5) - 2, 7}
		is, err := formula.Value(f, values)
		if is != holds(f, values) || err != nil {
			t.Fatal(f, values, is, err)
		}
		vars := formula.Vars(f)
		other := make([]int, 6)
		for j := range other {
			other[j] = 1000 + j
			if slices.Contains(vars, j) {
				other[j] = values[j]
			}
		}
		if again, err := formula.Value(f, other); again != is || err != nil {
			t.Fatal("it hangs on more than its variables", f, vars)
		}
	}
}

func TestMemory(t *testing.T) { // P2.4, R2
	make1 := func() api.Form {
		return node(api.FOr, eq(1, 4, 1, 9, 2), nots(2, le(0, 2, 1, 9, 3)), node(api.FAnd, le(0, 0, 1)))
	}
	f, values := make1(), []int{5, 4, 3}
	formula.Check(f)
	formula.Value(f, values)
	formula.Vars(f)[0] = 77
	formula.Size(f)
	if !reflect.DeepEqual(f, make1()) || !slices.Equal(values, []int{5, 4, 3}) || !slices.Equal(formula.Vars(f), []int{0, 2, 4, 9}) {
		t.Error("changed")
	}
}
