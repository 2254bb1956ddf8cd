package sat_test

import (
	"math"
	"math/rand"
	"reflect"
	"slices"
	"testing"

	"trammel/api"
	"trammel/prop"
	"trammel/rup"
	"trammel/sat"
)

func cl(c ...[]int) [][]int { return c }
func c(l ...int) []int      { return l }

func long(n, of int) [][]int {
	l := make([][]int, n)
	for i := range l {
		l[i] = slices.Repeat([]int{1}, of)
	}
	return l
}

// check holds what was found against P8.1, and answers its Kind.
func check(t *testing.T, n int, l [][]int, fuel int) int {
	t.Helper()
	f, err := sat.Solve(n, l, fuel)
	if err != nil {
		t.Fatal(err)
	}
	switch f.Kind {
	case api.Unsat:
		if err := rup.Check(n, l, f.Steps); err != nil || len(f.Values) != 0 {
			t.Fatal(n, l, f, err)
		}
	case api.Sat:
		if len(f.Values) != n || !prop.Value(l, f.Values) || len(f.Steps) != 0 {
			t.Fatal(n, l, f)
		}
	default:
		if !reflect.DeepEqual(f, api.Choice{}) {
			t.Fatal(f)
		}
	}
	return f.Kind
}

func TestErrors(t *testing.T) { // P8.1, R1, R3
	for i, x := range []struct {
		n    int
		c    [][]int
		fuel int
		err  error
	}{
		{-1, nil, 1000, api.ErrArg}, {api.MaxAtoms + 1, cl(c(0)), 1000, api.ErrArg}, {math.MinInt, nil, 0, api.ErrArg}, {1, cl(c(1), c(2)), 1000, api.ErrForm}, {1, cl(c(0)), 0, api.ErrForm}, {1, cl(c(math.MinInt)), -1, api.ErrForm},
		{1, long(16385, 1), 1000, api.ErrLong}, {1, long(1, 1<<17+1), 0, api.ErrLong},
	} {
		f, err := sat.Solve(x.n, x.c, x.fuel)
		if err != x.err || !reflect.DeepEqual(f, api.Choice{}) {
			t.Error(i, f, err)
		}
	}
}

func TestNoFuel(t *testing.T) { // P8.1
	for _, fuel := range []int{0, -1, math.MinInt} {
		for _, l := range [][][]int{nil, cl(c()), cl(c(1)), cl(c(1), c(-1))} {
			if k := check(t, 1, l, fuel); k != api.Gave {
				t.Error(l, k)
			}
		}
	}
}

func TestExamples(t *testing.T) { // P8.1, P8.2
	for i, x := range []struct {
		n    int
		c    [][]int
		kind int
	}{
		{2, cl(c(1, 2), c(-1), c(-2)), api.Unsat}, {2, cl(c(1, 2), c(-1)), api.Sat}, {0, nil, api.Sat}, {0, cl(c()), api.Unsat}, {10, nil, api.Sat}, {3, cl(c(1), c()), api.Unsat},
		{2, cl(c(1, -1), c(2, 2), c(-2, -2, 1), c(-1, -1)), api.Unsat}, {2, cl(c(1, -1, 1), c(2, 2), c(-2, 1, -2)), api.Sat}, {1, long(2000, 8), api.Sat}, {1, append(long(1999, 8), c(-1)), api.Unsat},
		{2, cl(c(1, 2), c(1, -2), c(-1, 2), c(-1, -2)), api.Unsat},
	} {
		if k := check(t, x.n, x.c, 10000); k != x.kind {
			t.Error(i, k)
		}
	}
	if f, _ := sat.Solve(2, cl(c(1, 2), c(-1)), 10000); !slices.Equal(f.Values, []bool{false, true}) {
		t.Error(f)
	}
}

func row(r *rand.Rand, n, most int) []int {
	var l []int
	for j := r.Intn(most); j >= 0; j-- {
		l = append(l, (1+r.Intn(n))*(1-2*r.Intn(2)))
	}
	return l
}

func can(n int, l [][]int) bool {
	values := make([]bool, n)
	for b := 0; b < 1<<n; b++ {
		for j := range values {
			values[j] = b>>j&1 == 1
		}
		if prop.Value(l, values) {
			return true
		}
	}
	return false
}

func TestDecides(t *testing.T) { // P8.2, P8.4
	r := rand.New(rand.NewSource(9))
	seen := map[int]int{}
	for i := 0; i < 3000; i++ {
		n := 1 + r.Intn(10)
		var l [][]int
		for k := r.Intn(8 * n); k > 0; k-- {
			l = append(l, row(r, n, 3+r.Intn(2)))
		}
		want := api.Unsat
		if can(n, l) {
			want = api.Sat
		}
		if k := check(t, n, l, 10000); k != want {
			t.Fatal(n, l, k)
		}
		seen[want]++
		for _, fuel := range []int{1, 2, 5, 20} { // with less it may give up, but is never wrong
			if k := check(t, n, l, fuel); k != want && k != api.Gave {
				t.Fatal(n, l, k)
			}
		}
	}
	if seen[api.Sat] < 300 || seen[api.Unsat] < 300 {
		t.Error(seen)
	}
}

func TestDecidesTheHardest(t *testing.T) { // P8.2: all clauses of ten variables, with and without one of them
	var l [][]int
	for b := 0; b < 1<<10; b++ {
		var o []int
		for v := 1; v <= 10; v++ {
			o = append(o, v*(1-b>>(v-1)&1*2))
		}
		l = append(l, o)
	}
	if k := check(t, 10, l, 10000); k != api.Unsat {
		t.Error(k)
	}
	for _, i := range []int{0, 1, 500, 1023} {
		if k := check(t, 10, slices.Delete(slices.Clone(l), i, i+1), 10000); k != api.Sat {
			t.Error(i, k)
		}
	}
	var wide [][]int // 2000 clauses, 16000 literals
	r := rand.New(rand.NewSource(10))
	for len(wide) < 2000 {
		var o []int
		for _, v := range r.Perm(10)[:8] {
			o = append(o, (v+1)*(1-2*r.Intn(2)))
		}
		wide = append(wide, o)
	}
	want := api.Unsat
	if can(10, wide) {
		want = api.Sat
	}
	if k := check(t, 10, wide, 10000); k != want {
		t.Error(k)
	}
}

func TestMoreVariables(t *testing.T) { // P8.1, P8.4: no wrong answer, P1: it ends
	r := rand.New(rand.NewSource(11))
	for i := 0; i < 30; i++ {
		n := 50 + r.Intn(50)
		hidden := make([]bool, n)
		for j := range hidden {
			hidden[j] = r.Intn(2) == 0
		}
		var l [][]int
		for len(l) < 4*n {
			if o := row(r, n, 4); prop.Value(cl(o), hidden) {
				l = append(l, o)
			}
		}
		if k := check(t, n, l, 100000); k == api.Unsat {
			t.Error("there are values")
		}
	}
	var holes [][]int // one more than there is room for
	const m = 6
	at := func(i, j int) int { return i*m + j + 1 }
	for i := 0; i <= m; i++ {
		var o []int
		for j := 0; j < m; j++ {
			o = append(o, at(i, j))
			for k := 0; k < i; k++ {
				holes = append(holes, c(-at(i, j), -at(k, j)))
			}
		}
		holes = append(holes, o)
	}
	if k := check(t, m*(m+1), holes, math.MaxInt); k == api.Sat {
		t.Error(k)
	}
}

func TestMemory(t *testing.T) { // P8.3, R2
	made := func() [][]int { return cl(c(1, 2, 2, 3), c(1, -2), c(-1, 2), c(-1, -2), c(-3, 1)) }
	l := made()
	a, _ := sat.Solve(3, l, 10000)
	for _, s := range a.Steps {
		for i := range s {
			s[i] = 99
		}
	}
	b, _ := sat.Solve(3, l, 10000)
	d, _ := sat.Solve(3, l, 10000)
	if !reflect.DeepEqual(l, made()) || !reflect.DeepEqual(b, d) || rup.Check(3, l, b.Steps) != nil {
		t.Error("changed, or kept")
	}
}
