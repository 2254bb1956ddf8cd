package lin_test

import (
	"math"
	"math/rand"
	"reflect"
	"testing"

	"trammel/api"
	"trammel/lin"
)

func form(c int, vk ...int) api.Lin {
	l := api.Lin{C: c}
	for i := 0; i+1 < len(vk); i += 2 {
		l.T = append(l.T, api.Mono{V: vk[i], K: vk[i+1]})
	}
	return l
}

func terms(n, k int) []api.Mono {
	var t []api.Mono
	for i := 0; i < n; i++ {
		t = append(t, api.Mono{V: i, K: k})
	}
	return t
}

func TestCheck(t *testing.T) { // P1.1
	const c, v = api.MaxCoef, api.MaxVar
	for i, x := range []struct {
		l  api.Lin
		ok bool
	}{
		{form(0), true}, {form(c), true}, {form(-c), true}, {form(c + 1), false}, {form(-c - 1), false},
		{form(math.MinInt), false}, {form(math.MaxInt), false},
		{form(0, 0, c), true}, {form(0, 0, -c), true}, {form(0, 0, c+1), false}, {form(0, 0, -c-1), false},
		{form(0, 0, math.MinInt), false}, {form(0, 0, 0), false}, {form(0, 1, 1, 2, 0), false},
		{form(0, v-1, 1), true}, {form(0, v, 1), false}, {form(0, -1, 1), false}, {form(0, math.MaxInt, 1), false},
		{form(0, 1, 1, 2, 1), true}, {form(0, 2, 1, 1, 1), false}, {form(0, 1, 1, 1, 1), false}, {form(0, 1, 1, 3, 1, 2, 1), false},
		{api.Lin{T: terms(64, 1)}, true}, {api.Lin{T: terms(65, 1)}, false}, {api.Lin{T: []api.Mono{}}, true},
	} {
		err := lin.Check(x.l)
		if x.ok && err != nil || !x.ok && err != error(api.ErrForm) {
			t.Error(i, x.l, err)
		}
	}
}

func TestMake(t *testing.T) { // P1.1
	const c, v = api.MaxCoef, api.MaxVar
	far := append(terms(65, 1), api.Mono{V: 0, K: c})
	for i, x := range []struct {
		c    int
		t    []api.Mono
		want api.Lin
		err  error
	}{
		{1, form(0, 0, 2, 1, 3, 0, -2).T, form(1, 1, 3), nil},
		{5, nil, form(5), nil},
		{c, form(0, 3, 1, 1, 2, 3, 4, 2, -c).T, form(c, 1, 2, 2, -c, 3, 5), nil},
		{-c, form(0, v-1, 0).T, form(-c), nil},
		{c + 1, nil, api.Lin{}, api.ErrArg}, {-c - 1, nil, api.Lin{}, api.ErrArg}, {math.MinInt, nil, api.Lin{}, api.ErrArg},
		{0, form(0, v, 1).T, api.Lin{}, api.ErrArg}, {0, form(0, -1, 1).T, api.Lin{}, api.ErrArg},
		{0, form(0, 0, c+1).T, api.Lin{}, api.ErrArg}, {0, form(0, 0, math.MinInt).T, api.Lin{}, api.ErrArg},
		{0, make([]api.Mono, 4096), form(0), nil}, {0, make([]api.Mono, 4097), api.Lin{}, api.ErrArg},
		{0, form(0, 2, c, 2, 1).T, api.Lin{}, api.ErrFar}, {0, form(0, 2, -c, 2, -1).T, api.Lin{}, api.ErrFar},
		{0, form(0, 2, c, 2, 1, 2, -1).T, form(0, 2, c), nil},
		{0, terms(64, 7), api.Lin{T: terms(64, 7)}, nil},
		{0, terms(65, 7), api.Lin{}, api.ErrLong},
		{0, append(terms(65, 7), api.Mono{V: 9, K: -7}), form(0, append(flat(terms(9, 7)), flat(terms(65, 7)[10:])...)...), nil},
		{0, far, api.Lin{}, api.ErrFar}, // far comes ahead of long
	} {
		l, err := lin.Make(x.c, x.t)
		if err != x.err || !lin.Same(l, x.want) || err == nil && lin.Check(l) != nil {
			t.Error(i, l, err)
		}
	}
}

func flat(t []api.Mono) []int {
	var vk []int
	for _, m := range t {
		vk = append(vk, m.V, m.K)
	}
	return vk
}

func TestAdd(t *testing.T) { // P1.2
	const c, m = api.MaxCoef, api.MaxTimes
	odd := api.Lin{T: terms(64, 1)}
	for i := range odd.T {
		odd.T[i].V += 64
	}
	for i, x := range []struct {
		a, b api.Lin
		x, y int
		want api.Lin
		err  error
	}{
		{form(1, 0, 2), form(3, 0, 1, 5, -1), 2, -4, form(-10, 5, 4), nil},
		{form(1, 7, 2), form(3, 0, 1), m, -m, form(m-3*m, 0, -m, 7, 2*m), nil},
		{form(1, 7, 2), form(3, 0, 1), 0, 0, form(0), nil},
		{form(1, 0, 0), form(0), m + 1, 0, form(0), api.ErrForm}, // form ahead of argument
		{form(1), form(0, 2, 1, 1, 1), m + 1, 0, form(0), api.ErrForm},
		{form(1), form(0), m + 1, 0, form(0), api.ErrArg}, {form(1), form(0), 0, m + 1, form(0), api.ErrArg},
		{form(1), form(0), -m - 1, 0, form(0), api.ErrArg}, {form(1), form(0), 0, math.MinInt, form(0), api.ErrArg},
		{form(c), form(0), 2, 0, form(0), api.ErrFar}, {form(c), form(c - 1), 2, -1, form(0), api.ErrFar},
		{form(c), form(c), 2, -1, form(c), nil}, {form(c), form(c), -2, 1, form(-c), nil},
		{form(0, 3, c), form(0, 3, 1), 1, 1, form(0), api.ErrFar}, {form(0, 3, c), form(0, 3, 1), 1, -1, form(0, 3, c-1), nil},
		{form(0, 3, -c), form(0, 3, 1), 1, -1, form(0), api.ErrFar},
		{api.Lin{T: terms(64, 1)}, form(0, 64, 1), 1, 1, form(0), api.ErrLong},
		{api.Lin{T: terms(64, 1)}, form(0, 64, 1), 1, 0, api.Lin{T: terms(64, 1)}, nil},
		{api.Lin{T: terms(64, 1)}, odd, 1, 1, form(0), api.ErrLong},
		{api.Lin{C: c, T: terms(64, 1)}, odd, 2, 1, form(0), api.ErrFar}, // far ahead of long
		{api.Lin{T: terms(64, 1)}, api.Lin{T: terms(64, 1)}, 5, -5, form(0), nil},
	} {
		l, err := lin.Add(x.a, x.b, x.x, x.y)
		if err != x.err || !lin.Same(l, x.want) || err == nil && lin.Check(l) != nil {
			t.Error(i, l, err)
		}
	}
}

func TestValue(t *testing.T) { // P1.3
	const v = api.MaxValue
	big := api.Lin{C: api.MaxCoef, T: terms(64, api.MaxCoef)}
	most := make([]int, 64)
	for i := range most {
		most[i] = v
	}
	for i, x := range []struct {
		l      api.Lin
		values []int
		want   int
		err    error
	}{
		{form(1, 1, 3), []int{7, 5}, 16, nil}, {form(1, 1, 3), []int{7}, 1, nil}, {form(4), nil, 4, nil},
		{form(1, 1, 3), []int{7, v}, 1 + 3*v, nil}, {form(1, 1, 3), []int{7, -v}, 1 - 3*v, nil},
		{form(1, 1, 3), []int{7, v + 1}, 0, api.ErrArg}, {form(1, 1, 3), []int{7, -v - 1}, 0, api.ErrArg},
		{form(1, 1, 3), []int{7, math.MinInt}, 0, api.ErrArg},
		{form(1, 1, 3), []int{v + 1, 2}, 7, nil}, // only what stands there counts
		{form(1, 1, 0), []int{7, v + 1}, 0, api.ErrForm},
		{big, most, api.MaxCoef + 64*v*api.MaxCoef, nil},
	} {
		n, err := lin.Value(x.l, x.values)
		if n != x.want || err != x.err {
			t.Error(i, n, err)
		}
	}
}

func TestGcdAndSame(t *testing.T) { // P1.3
	for i, x := range []struct {
		l api.Lin
		g int
	}{
		{form(9), 0}, {form(1, 0, 6, 3, -9), 3}, {form(0, 0, -4), 4}, {form(0, 2, 5, 3, 7), 1},
		{form(0, 0, -api.MaxCoef, 1, api.MaxCoef), api.MaxCoef},
		{form(0, 0, 6, 0, 9), 0}, {form(api.MaxCoef+1, 0, 6), 0}, {form(0, 0, math.MinInt), 0},
	} {
		if g := lin.Gcd(x.l); g != x.g {
			t.Error(i, g)
		}
	}
	all := []api.Lin{form(0), form(1), form(1, 0, 1), form(1, 1, 1), form(1, 0, 2), form(1, 0, 1, 1, 1), form(0, 0, 1), form(1, 0, 1, 2, 1)}
	for i, a := range all {
		for j, b := range all {
			if lin.Same(a, b) != (i == j) {
				t.Error(a, b)
			}
		}
	}
	if !lin.Same(api.Lin{T: []api.Mono{}}, api.Lin{}) {
		t.Error("no terms are no terms")
	}
}

func random(r *rand.Rand) api.Lin {
	var t []api.Mono
	for i := r.Intn(6); i > 0; i-- {
		t = append(t, api.Mono{V: r.Intn(8), K: r.Intn(21) - 10})
	}
	l, err := lin.Make(r.Intn(101)-50, t)
	if err != nil {
		panic(err)
	}
	return l
}

func TestSums(t *testing.T) { // P1.5, and Make's value of P1.1
	r := rand.New(rand.NewSource(1))
	for i := 0; i < 2000; i++ {
		var values []int
		for j := r.Intn(9); j > 0; j-- {
			values = append(values, r.Intn(2001)-1000)
		}
		a, b, x, y := random(r), random(r), r.Intn(101)-50, r.Intn(101)-50
		s, err := lin.Add(a, b, x, y)
		va, _ := lin.Value(a, values)
		vb, _ := lin.Value(b, values)
		vs, err2 := lin.Value(s, values)
		if err != nil || err2 != nil || vs != x*va+y*vb {
			t.Fatal(a, b, x, y, s, err, err2)
		}
		var m []api.Mono
		want := 3
		for j := r.Intn(9); j > 0; j-- {
			m = append(m, api.Mono{V: r.Intn(5), K: r.Intn(7) - 3})
			if v := m[len(m)-1]; v.V < len(values) {
				want += v.K * values[v.V]
			}
		}
		l, _ := lin.Make(3, m)
		if v, err := lin.Value(l, values); v != want || err != nil || lin.Check(l) != nil {
			t.Fatal(m, l, v, want)
		}
	}
}

func TestMemory(t *testing.T) { // P1.4, R2
	a, b := form(1, 0, 1, 4, 2), form(2, 1, 3)
	m := form(0, 4, 1, 2, 5, 4, 3).T
	l, _ := lin.Make(7, m)
	s, _ := lin.Add(a, b, 1, 0)
	u, _ := lin.Add(a, b, 0, 1)
	values := []int{1, 2, 3}
	lin.Value(a, values)
	lin.Gcd(a)
	for _, x := range []api.Lin{l, s, u} {
		for i := range x.T {
			x.T[i] = api.Mono{V: 99, K: 99}
		}
	}
	if !reflect.DeepEqual(m, form(0, 4, 1, 2, 5, 4, 3).T) || !lin.Same(a, form(1, 0, 1, 4, 2)) || !lin.Same(b, form(2, 1, 3)) || !reflect.DeepEqual(values, []int{1, 2, 3}) {
		t.Error("changed, or shared", m, a, b)
	}
	again, _ := lin.Make(7, m)
	if !lin.Same(again, form(7, 2, 5, 4, 4)) {
		t.Error("kept", again)
	}
}
