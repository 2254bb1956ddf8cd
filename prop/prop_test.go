package prop_test

import (
	"math"
	"math/rand"
	"reflect"
	"slices"
	"testing"

	"trammel/api"
	"trammel/prop"
)

func clauses(c ...[]int) [][]int { return c }
func c(l ...int) []int           { return l }

func long(n, of int) [][]int {
	l := make([][]int, n)
	for i := range l {
		l[i] = slices.Repeat([]int{1}, of)
	}
	return l
}

func TestCheck(t *testing.T) { // P6.1, R1
	const m = api.MaxAtoms
	for i, x := range []struct {
		n   int
		c   [][]int
		err error
	}{
		{0, nil, nil}, {m, nil, nil}, {-1, nil, api.ErrArg}, {m + 1, nil, api.ErrArg}, {math.MinInt, nil, api.ErrArg}, {m + 1, long(1, 1<<17+1), api.ErrArg}, {-1, clauses(c(0)), api.ErrArg},
		{1, long(16384, 8), nil}, {1, long(16385, 0), api.ErrLong}, {1, long(1, 1<<17), nil}, {1, long(1, 1<<17+1), api.ErrLong}, {1, append(long(16383, 8), slices.Repeat(c(1), 9)), api.ErrLong},
		{0, long(1, 1<<17+1), api.ErrLong}, {1, append(long(1, 1<<17), c(0)), api.ErrLong},
		{0, clauses(c()), nil}, {0, clauses(c(1)), api.ErrForm}, {2, clauses(c(1, -2), c(2, -1, 2)), nil}, {2, clauses(c(1), c(0)), api.ErrForm},
		{2, clauses(c(1), c(3)), api.ErrForm}, {2, clauses(c(1, 2, -3)), api.ErrForm}, {2, clauses(c(math.MinInt)), api.ErrForm}, {2, clauses(c(math.MaxInt)), api.ErrForm},
		{m, clauses(c(m, -m)), nil}, {m, clauses(c(m + 1)), api.ErrForm}, {m, clauses(c(-m - 1)), api.ErrForm},
	} {
		if err := prop.Check(x.n, x.c); err != x.err {
			t.Error(i, err)
		}
		if is, no, err := prop.Follow(x.n, x.c, c(0)); x.err != nil && (err != x.err || is != nil || no) {
			t.Error(i, is, no, err)
		}
	}
}

func TestValue(t *testing.T) { // P6.2
	for i, x := range []struct {
		c    [][]int
		v    []bool
		want bool
	}{
		{nil, nil, true}, {clauses(c()), nil, false}, {clauses(c(1)), []bool{true}, true}, {clauses(c(1)), []bool{false}, false}, {clauses(c(-1)), []bool{false}, true}, {clauses(c(-1)), []bool{true}, false},
		{clauses(c(1)), nil, false}, {clauses(c(-1)), nil, false}, {clauses(c(-2)), []bool{false}, false}, {clauses(c(2)), []bool{true}, false}, {clauses(c(2, -2)), []bool{true}, false},
		{clauses(c(0)), []bool{true}, false}, {clauses(c(math.MinInt)), []bool{false}, false}, {clauses(c(math.MinInt, 0, 7, -7, 1)), []bool{true}, true}, {clauses(c(math.MaxInt)), []bool{true}, false},
		{clauses(c(1, 2), c(-1)), []bool{false, true}, true}, {clauses(c(1, 2), c(-2)), []bool{false, true}, false}, {clauses(c(-2), c(1, 2)), []bool{false, true}, false},
		{clauses(c(1, 2, 3), c(-3, -2)), []bool{false, false, true}, true},
	} {
		if is := prop.Value(x.c, x.v); is != x.want {
			t.Error(i, is)
		}
	}
}

func TestFollow(t *testing.T) { // P6.3
	for i, x := range []struct {
		n    int
		c    [][]int
		lits []int
		want []int
		no   bool
		err  error
	}{
		{2, clauses(c(-1, 2)), c(1), c(0, 1, 1), false, nil}, {2, clauses(c(-1, 2), c(-2)), c(1), nil, true, nil},
		{0, nil, nil, c(0), false, nil}, {3, nil, c(-2), c(0, 0, -1, 0), false, nil}, {3, nil, c(2, -2), nil, true, nil}, {3, nil, c(2, 2), c(0, 0, 1, 0), false, nil},
		{1, clauses(c()), nil, nil, true, nil}, {0, clauses(c()), nil, nil, true, nil}, {1, clauses(c(1)), nil, c(0, 1), false, nil}, {1, clauses(c(1), c(-1)), nil, nil, true, nil},
		{1, clauses(c(1, 1)), nil, c(0, 1), false, nil}, {1, clauses(c(-1, -1, -1)), nil, c(0, -1), false, nil}, // one literal, as often as it stands there
		{2, clauses(c(1, -1)), nil, c(0, 0, 0), false, nil}, {2, clauses(c(1, -1, 2)), c(-2), c(0, 0, -1), false, nil}, {2, clauses(c(2, 1, 2, 1)), c(-1), c(0, -1, 1), false, nil},
		{2, clauses(c(2, 2, 1, 1)), nil, c(0, 0, 0), false, nil}, {2, clauses(c(1, 2)), c(1), c(0, 1, 0), false, nil}, {2, clauses(c(1, 2)), c(-1, -2), nil, true, nil},
		{4, clauses(c(-3, 4), c(-2, 3), c(-1, 2)), c(1), c(0, 1, 1, 1, 1), false, nil}, {4, clauses(c(-1, 2), c(-2, 3), c(-3, 4), c(-4, -1)), c(1), nil, true, nil},
		{4, clauses(c(-1, 2), c(-1, 3), c(-2, -3, 4)), c(1), c(0, 1, 1, 1, 1), false, nil}, {4, clauses(c(-1, 2), c(-1, 3), c(-2, -3, 4)), c(-4), c(0, 0, 0, 0, -1), false, nil},
		{2, nil, c(3), nil, false, api.ErrForm}, {2, nil, c(0), nil, false, api.ErrForm}, {2, nil, c(1, -3), nil, false, api.ErrForm}, {2, nil, c(math.MinInt), nil, false, api.ErrForm},
		{2, clauses(c()), c(3), nil, false, api.ErrForm}, {2, clauses(c(3)), c(1), nil, false, api.ErrForm},
	} {
		is, no, err := prop.Follow(x.n, x.c, x.lits)
		if !slices.Equal(is, x.want) || no != x.no || err != x.err {
			t.Error(i, is, no, err)
		}
	}
}

func random(r *rand.Rand, n int) [][]int {
	var l [][]int
	for k := r.Intn(12); k > 0; k-- {
		var o []int
		for j := r.Intn(5) - r.Intn(2); j >= 0; j-- {
			o = append(o, (1+r.Intn(n))*(1-2*r.Intn(2)))
		}
		l = append(l, o)
	}
	return l
}

func slow(n int, l [][]int, lits []int) ([]int, bool) { // P6.3, written once more: again and again
	is := make([]int, n+1)
	value := func(l int) int {
		if l < 0 {
			return -is[-l]
		}
		return is[l]
	}
	set := func(l int) {
		if l < 0 {
			is[-l] = -1
		} else {
			is[l] = 1
		}
	}
	for _, l := range lits {
		if value(l) < 0 {
			return nil, true
		}
		set(l)
	}
	for again := true; again; {
		again = false
		for _, o := range l {
			var open []int
			sat := false
			for _, l := range o {
				sat = sat || value(l) > 0
				if value(l) == 0 && !slices.Contains(open, l) {
					open = append(open, l)
				}
			}
			if !sat && len(open) == 0 {
				return nil, true
			}
			if !sat && len(open) == 1 {
				set(open[0])
				again = true
			}
		}
	}
	return is, false
}

func TestFollowsOften(t *testing.T) { // P6.3, P6.5
	r := rand.New(rand.NewSource(7))
	conflicts := 0
	for i := 0; i < 5000; i++ {
		n := 1 + r.Intn(6)
		l, lits := random(r, n), []int(nil)
		for k := r.Intn(3); k > 0; k-- {
			lits = append(lits, (1+r.Intn(n))*(1-2*r.Intn(2)))
		}
		is, no, err := prop.Follow(n, l, lits)
		want, wantNo := slow(n, l, lits)
		if !slices.Equal(is, want) || no != wantNo || err != nil {
			t.Fatal(n, l, lits, is, no, err)
		}
		if no {
			conflicts++
		}
		for b := 0; b < 1<<n; b++ {
			values := make([]bool, n)
			for j := range values {
				values[j] = b>>j&1 == 1
			}
			all := l
			for _, l := range lits {
				all = append(all[:len(all):len(all)], c(l))
			}
			if !prop.Value(all, values) {
				continue
			}
			if no {
				t.Fatal("a conflict, with values", l, lits, values)
			}
			for j, v := range values {
				if is[j+1] == 1 && !v || is[j+1] == -1 && v {
					t.Fatal("they don't agree", l, lits, values, is)
				}
			}
		}
	}
	if conflicts < 500 || conflicts > 4500 {
		t.Error(conflicts)
	}
}

func TestLong(t *testing.T) { // P1: the longest rows are gone through once
	n := api.MaxAtoms
	var l [][]int
	for v := 1; v < n; v++ {
		l = append(l, c(-v, v+1))
	}
	var wide []int
	for len(wide) < 100000 {
		for v := 1; v <= n; v++ {
			wide = append(wide, -v)
		}
	}
	if is, no, err := prop.Follow(n, l, c(1)); no || err != nil || is[n] != 1 {
		t.Error(no, err)
	}
	if _, no, err := prop.Follow(n, append(l, wide), c(1)); !no || err != nil {
		t.Error(no, err)
	}
}

func TestMemory(t *testing.T) { // P6.4, R2
	l, lits, values := clauses(c(-1, 2), c(-2, 3, 3)), c(1, 4), []bool{true, true, true, true}
	a, _, _ := prop.Follow(4, l, lits)
	a[2] = 7
	b, _, _ := prop.Follow(4, l, lits)
	prop.Value(l, values)
	if !reflect.DeepEqual(l, clauses(c(-1, 2), c(-2, 3, 3))) || !slices.Equal(lits, c(1, 4)) || !slices.Equal(values, []bool{true, true, true, true}) || !slices.Equal(b, c(0, 1, 1, 1, 1)) {
		t.Error("changed, or kept")
	}
}
