package elim_test

import (
	"math"
	"math/rand"
	"reflect"
	"testing"

	"trammel/api"
	"trammel/cut"
	"trammel/elim"
	"trammel/lin"
)

func form(c int, vk ...int) api.Lin {
	l := api.Lin{C: c}
	for i := 0; i+1 < len(vk); i += 2 {
		l.T = append(l.T, api.Mono{V: vk[i], K: vk[i+1]})
	}
	return l
}

func forms(l ...api.Lin) []api.Lin { return l }

// check holds what was found against P5.1, and answers its Kind.
func check(t *testing.T, p []api.Lin, fuel int) int {
	t.Helper()
	f, err := elim.Solve(p, fuel)
	if err != nil {
		t.Fatal(p, err)
	}
	switch f.Kind {
	case api.Unsat:
		if err := cut.Refutes(p, f.Steps); err != nil || len(f.Values) != 0 {
			t.Fatal(p, f, err)
		}
	case api.Sat:
		for _, v := range f.Values {
			if v < -api.MaxValue || v > api.MaxValue {
				t.Fatal(p, f)
			}
		}
		for _, l := range p {
			if n, err := lin.Value(l, f.Values); err != nil || n > 0 {
				t.Fatal(p, f, err)
			}
		}
		if len(f.Steps) != 0 {
			t.Fatal(p, f)
		}
	case api.Gave:
		if len(f.Steps) != 0 || len(f.Values) != 0 {
			t.Fatal(p, f)
		}
	default:
		t.Fatal(f)
	}
	return f.Kind
}

func TestErrors(t *testing.T) { // P5.1, R1, R3
	for i, x := range []struct {
		p    []api.Lin
		fuel int
		err  error
	}{
		{make([]api.Lin, 4097), 1000, api.ErrLong}, {append(make([]api.Lin, 4096), form(0, 0, 0)), 0, api.ErrLong},
		{forms(form(0), form(0, 0, 0)), 1000, api.ErrForm}, {forms(form(api.MaxCoef + 1)), 0, api.ErrForm},
		{forms(form(0, 0, math.MinInt)), math.MinInt, api.ErrForm}, {make([]api.Lin, 4096), 1000, nil},
	} {
		f, err := elim.Solve(x.p, x.fuel)
		if err != x.err || err != nil && !reflect.DeepEqual(f, api.Found{}) {
			t.Error(i, f, err)
		}
	}
}

func TestNoFuel(t *testing.T) { // P5.1
	for _, fuel := range []int{0, -1, math.MinInt} {
		for _, p := range [][]api.Lin{nil, forms(form(1)), forms(form(0, 0, 1))} {
			if k := check(t, p, fuel); k != api.Gave {
				t.Error(p, k)
			}
		}
	}
	for fuel := 1; fuel < 60; fuel++ { // whatever it is, no answer is wrong
		check(t, forms(form(-1, 0, 1, 1, 1), form(2, 0, -1), form(2, 1, -1), form(0, 2, 1, 3, -1)), fuel)
	}
}

func TestExamples(t *testing.T) { // P5.1: the kind is promised of what has one term each
	for i, x := range []struct {
		p    []api.Lin
		kind int
	}{
		{forms(form(-1, 0, 1), form(2, 0, -1)), api.Unsat}, {forms(form(3, 0, -1), form(-3, 0, 1)), api.Sat},
		{nil, api.Sat}, {forms(form(1)), api.Unsat}, {forms(form(0)), api.Sat}, {forms(form(1 << 29)), api.Unsat}, {forms(form(-1), form(5)), api.Unsat},
		{forms(form(-1, 0, 2), form(1, 0, -2)), api.Unsat}, // 2 x0 is 1
		{forms(form(0, 1<<20-1, 1), form(0, 1<<20-1, -1)), api.Sat},
		{forms(form(api.MaxValue, 0, 1), form(-api.MaxValue, 1, -1)), api.Sat}, {forms(form(-api.MaxValue, 0, 1), form(api.MaxValue, 0, -1)), api.Sat},
		{forms(form(1<<29, 3, 1<<29), form(0, 3, -(1<<29))), api.Unsat}, {forms(form(-(1<<29), 3, -(1<<29)), form(0, 3, 1<<29)), api.Sat},
		{forms(form(-5, 7, 3), form(4, 7, -3)), api.Unsat}, {forms(form(-6, 7, 3), form(4, 7, -3)), api.Sat},
	} {
		if k := check(t, x.p, 100000); k != x.kind {
			t.Error(i, x.p, k)
		}
	}
	f, _ := elim.Solve(forms(form(3, 0, -1), form(-3, 0, 1)), 100000)
	if len(f.Values) < 1 || f.Values[0] != 3 {
		t.Error(f)
	}
	if k := check(t, forms(form(api.MaxValue+1, 0, -1)), 100000); k != api.Gave { // there are values, but none that may be told
		t.Error(k)
	}
}

func TestManyTerms(t *testing.T) { // P5.1, P5.4: whatever is found, it is so
	for i, x := range []struct {
		p     []api.Lin
		never int
	}{
		{forms(form(-1, 0, 2, 1, -4), form(1, 0, -2, 1, 4)), api.Sat},
		{forms(form(1, 0, 1, 1, -1), form(1, 1, 1, 2, -1), form(1, 0, -1, 2, 1)), api.Sat},
		{forms(form(1, 0, 1, 1, -1), form(1, 1, 1, 2, -1), form(-2, 0, 1, 2, -1)), api.Unsat},
		{forms(form(0, 0, -1, 1, 1000000), form(0, 0, 1, 1, -1000000), form(1, 1, -1), form(-999999, 0, 1)), api.Sat},
		{forms(form(0, 0, 1, 1, -1000000, 2, -1), form(0, 2, -1), form(1, 1, -1), form(0, 0, -1, 1, 1000000, 2, 1), form(-999999, 0, 1)), api.Sat},
		{forms(form(0, 0, 1, 1, -3), form(0, 0, -1, 1, 3), form(1, 1, -1), form(-2, 0, 1)), api.Sat},
		{forms(form(0, 0, 1, 1, 1<<30), form(1, 0, -1, 1, 1-1<<30), form(0, 1, 1<<30, 2, 1)), api.Unsat},
	} {
		for _, fuel := range []int{1, 10, 100, 1000, 100000} {
			if k := check(t, x.p, fuel); k == x.never {
				t.Error(i, x.p, k)
			}
		}
	}
}

func floor(a, b int) int { return int(math.Floor(float64(a) / float64(b))) }

func TestDecides(t *testing.T) { // P5.2, P5.4
	r := rand.New(rand.NewSource(5))
	seen := map[int]int{}
	for i := 0; i < 3000; i++ {
		var p []api.Lin
		bound := 1 << r.Intn(30)
		vars := 1 + r.Intn(40)
		low, high := map[int]int{}, map[int]int{}
		never := false
		for n := r.Intn(65); n > 0; n-- {
			c, k, v := r.Intn(2*bound+1)-bound, r.Intn(2*bound+1)-bound, r.Intn(vars)
			if r.Intn(3) > 0 && c != 0 && k != 0 && bound > 10 {
				k = (k % 8) * 100
			}
			if k == 0 {
				p = append(p, form(-abs(c)))
				if r.Intn(500) == 0 {
					p = append(p[:len(p)-1], form(abs(c)))
					never = never || c != 0
				}
				continue
			}
			p = append(p, form(c, v, k))
			if _, ok := low[v]; !ok {
				low[v], high[v] = math.MinInt/2, math.MaxInt/2
			}
			if k > 0 {
				high[v] = min(high[v], floor(-c, k))
			} else {
				low[v] = max(low[v], -floor(-c, -k))
			}
		}
		want := api.Sat
		for v := range low {
			if low[v] > high[v] {
				never = true
			}
			if max(low[v], -api.MaxValue) > min(high[v], api.MaxValue) {
				want = api.Gave
			}
		}
		if never {
			want = api.Unsat
		}
		k := check(t, p, 100000)
		if want != k {
			t.Fatal(p, k, want)
		}
		seen[k]++
	}
	if seen[api.Sat] < 100 || seen[api.Unsat] < 100 {
		t.Error(seen)
	}
}

func abs(n int) int { return max(n, -n) }

func TestRightAnswers(t *testing.T) { // P5.1, P5.4: held against all values in a small box
	r := rand.New(rand.NewSource(6))
	for i := 0; i < 3000; i++ {
		p := forms(form(-3, 0, 1), form(-3, 0, -1), form(-3, 1, 1), form(-3, 1, -1), form(-3, 2, 1), form(-3, 2, -1))
		for n := 1 + r.Intn(5); n > 0; n-- {
			l := form(r.Intn(9) - 4)
			for v := 0; v < 3; v++ {
				if k := r.Intn(9) - 4; k != 0 && r.Intn(3) > 0 {
					l.T = append(l.T, api.Mono{V: v, K: k})
				}
			}
			p = append(p, l)
		}
		want := api.Unsat
		for n := 0; n < 343; n++ {
			ok := true
			for _, l := range p {
				v, _ := lin.Value(l, []int{n%7 - 3, n/7%7 - 3, n/49 - 3})
				ok = ok && v <= 0
			}
			if ok {
				want = api.Sat
			}
		}
		k := check(t, p, 5000)
		if k != api.Gave && k != want {
			t.Fatal(p, k)
		}
	}
}

func TestMemory(t *testing.T) { // P5.3, R2
	made := func() []api.Lin { return forms(form(3, 0, -2, 1, 4), form(-3, 0, 1), form(1, 1, -3)) }
	p := made()
	a, _ := elim.Solve(p, 1000)
	b, _ := elim.Solve(p, 1000)
	if !reflect.DeepEqual(p, made()) || !reflect.DeepEqual(a, b) {
		t.Error("changed, or another answer")
	}
}
