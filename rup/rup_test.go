package rup_test

import (
	"errors"
	"math"
	"math/rand"
	"reflect"
	"slices"
	"testing"

	"trammel/api"
	"trammel/prop"
	"trammel/rup"
)

func cl(c ...[]int) [][]int { return c }
func c(l ...int) []int      { return l }

func long(n, of int) [][]int {
	l := make([][]int, n)
	for i := range l {
		l[i] = slices.Repeat([]int{1}, of)
	}
	return l
}

func at(err error) int {
	var s *api.Spot
	if errors.As(err, &s) {
		return s.At
	}
	return -1
}

func TestCheck(t *testing.T) { // P7.1, R1
	pairs := cl(c(1, 2), c(1, -2), c(-1, 2), c(-1, -2))
	for i, x := range []struct {
		n        int
		clauses  [][]int
		steps    [][]int
		at       int
		err      api.Code
		accepted bool
	}{
		{1, cl(c(1), c(-1)), cl(c()), 0, 0, true}, {1, cl(c(1)), cl(c()), 0, api.ErrStep, false},
		{2, pairs, cl(c(1), c()), 0, 0, true}, {2, pairs, cl(c(-2), c()), 0, 0, true}, {2, pairs, cl(c()), 0, api.ErrStep, false}, {2, pairs, cl(c(1)), -1, api.ErrOpen, false}, {2, pairs, nil, -1, api.ErrOpen, false},
		{2, pairs, cl(c(1), c(), c(2)), 0, 0, true}, {2, cl(c()), nil, 0, 0, true}, {0, cl(c()), nil, 0, 0, true}, {0, nil, nil, -1, api.ErrOpen, false},
		{0, nil, cl(c()), 0, api.ErrStep, false}, {2, nil, cl(c(1, -1)), -1, api.ErrOpen, false}, {2, nil, cl(c(1, -1), c(1, 2)), 1, api.ErrStep, false},
		{3, cl(c(-1, 2), c(-2, 3)), cl(c(-1, 3), c(3, -1, 2)), -1, api.ErrOpen, false}, {3, cl(c(-1, 2), c(-2, 3)), cl(c(-1, 3), c(-3, 1)), 1, api.ErrStep, false},
		{2, cl(c(1, 2)), cl(c(1, -2), c(1)), 0, api.ErrStep, false}, // a later step is no reason for it
		{2, pairs, cl(c(2, 1, 1), c(1), c(-2), c()), 0, 0, true},
		{2, cl(c()), cl(c(1), c(-1)), 0, 0, true}, // where there is a conflict, all follows
		{-1, nil, nil, -1, api.ErrArg, false}, {api.MaxAtoms + 1, nil, cl(c()), -1, api.ErrArg, false}, {1, cl(c(2)), cl(c(1)), -1, api.ErrForm, false}, {1, cl(c(1)), cl(c(), c(2)), -1, api.ErrForm, false}, {1, cl(c(1)), cl(c(0)), -1, api.ErrForm, false},
		{1, cl(c(1), c(-1)), cl(c(), c(math.MinInt)), -1, api.ErrForm, false},
		{1, cl(c(0)), long(16384, 0), -1, api.ErrForm, false}, {1, long(16384, 0), cl(c()), -1, api.ErrLong, false}, {1, long(16383, 0), cl(c()), 0, 0, true}, {1, nil, long(16385, 0), -1, api.ErrLong, false},
		{1, long(1, 1<<16), long(1, 1<<16), -1, api.ErrOpen, false}, {1, long(1, 1<<16), long(1, 1<<16+1), -1, api.ErrLong, false}, {1, cl(c(1), c(-1)), append(long(1, 1<<17), c(0)), -1, api.ErrLong, false},
	} {
		err := rup.Check(x.n, x.clauses, x.steps)
		if x.accepted && err != nil || !x.accepted && (!errors.Is(err, x.err) || at(err) != x.at || x.at < 0 && err != error(x.err)) {
			t.Error(i, err)
		}
	}
}

func TestNoValues(t *testing.T) { // P7.3
	r := rand.New(rand.NewSource(8))
	taken := 0
	for i := 0; i < 20000; i++ {
		n := 1 + r.Intn(3)
		row := func(most int) []int {
			var l []int
			for j := r.Intn(most + 1); j > 0; j-- {
				l = append(l, (1+r.Intn(n))*(1-2*r.Intn(2)))
			}
			return l
		}
		var l, steps [][]int
		for k := 2 + r.Intn(8); k > 0; k-- {
			l = append(l, append(row(2), row(1)...))
		}
		for k := r.Intn(3); k > 0; k-- {
			steps = append(steps, row(2))
		}
		if rup.Check(n, l, append(steps, c())) != nil {
			continue
		}
		taken++
		for b := 0; b < 1<<n; b++ {
			if prop.Value(l, []bool{b&1 == 1, b&2 == 2, b&4 == 4}[:n]) {
				t.Fatal(n, l, steps)
			}
		}
	}
	if taken < 500 {
		t.Error(taken)
	}
}

func TestMemory(t *testing.T) { // P7.2, R2
	backing := append(make([][]int, 0, 10), c(1, 2), c(1, -2), c(-1, 2), c(-1, -2))
	steps := cl(c(1), c())
	a, b := rup.Check(2, backing, steps), rup.Check(2, backing, steps)
	if a != nil || b != nil || !reflect.DeepEqual(backing, cl(c(1, 2), c(1, -2), c(-1, 2), c(-1, -2))) || !reflect.DeepEqual(steps, cl(c(1), c())) || backing[:5][4] != nil {
		t.Error("changed", a, b)
	}
}
