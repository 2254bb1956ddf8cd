package cut_test

import (
	"errors"
	"math"
	"math/rand"
	"reflect"
	"testing"

	"trammel/api"
	"trammel/cut"
	"trammel/lin"
)

func form(c int, vk ...int) api.Lin {
	l := api.Lin{C: c}
	for i := 0; i+1 < len(vk); i += 2 {
		l.T = append(l.T, api.Mono{V: vk[i], K: vk[i+1]})
	}
	return l
}

func forms(l ...api.Lin) []api.Lin { return l }

func step(div int, lineTimes ...int) api.Step {
	s := api.Step{Div: div}
	for i := 0; i+1 < len(lineTimes); i += 2 {
		s.Parts = append(s.Parts, api.Part{Line: lineTimes[i], Times: lineTimes[i+1]})
	}
	return s
}

func steps(s ...api.Step) []api.Step { return s }

func wide(from, n, k int) api.Lin {
	l := api.Lin{}
	for i := 0; i < n; i++ {
		l.T = append(l.T, api.Mono{V: from + i, K: k})
	}
	return l
}

func parts(n int) api.Step {
	return api.Step{Parts: make1(n), Div: 1}
}

func make1(n int) []api.Part {
	p := make([]api.Part, n)
	for i := range p {
		p[i].Times = 1
	}
	return p
}

func at(err error) int {
	var s *api.Spot
	if errors.As(err, &s) {
		return s.At
	}
	return -1
}

func TestLines(t *testing.T) { // P4.1
	const c, m = api.MaxCoef, api.MaxTimes
	for i, x := range []struct {
		p    []api.Lin
		s    []api.Step
		want []api.Lin
	}{
		{nil, nil, nil},
		{forms(form(1, 3, 4)), nil, forms(form(1, 3, 4))},
		{forms(form(-1, 0, 1), form(2, 0, -1)), steps(step(1, 0, 1, 1, 1)), forms(form(-1, 0, 1), form(2, 0, -1), form(1))},
		{forms(form(-1, 0, 2), form(1, 0, -2)), steps(step(2, 0, 1), step(2, 1, 1), step(1, 2, 1, 3, 1)), forms(form(-1, 0, 2), form(1, 0, -2), form(0, 0, 1), form(1, 0, -1), form(1))},
		{forms(form(7, 0, 6, 2, -9)), steps(step(3, 0, 1), step(3, 0, 2), step(1, 0, 1, 0, 1)), forms(form(7, 0, 6, 2, -9), form(3, 0, 2, 2, -3), form(5, 0, 4, 2, -6), form(14, 0, 12, 2, -18))},
		{forms(form(-7, 4, 3), form(-6, 4, -3), form(0)), steps(step(3, 0, 1), step(3, 1, 1), step(5, 0, 1, 1, 1)), forms(form(-7, 4, 3), form(-6, 4, -3), form(0), form(-2, 4, 1), form(-2, 4, -1), form(-2))},
		{nil, steps(step(1), step(c)), forms(form(0), form(0))},
		{forms(form(c, 1, c)), steps(step(m, 0, m), step(c, 0, 1), step(c, 0, m-1, 0, 1)), forms(form(c, 1, c), form(c, 1, c), form(1, 1, 1), form(m, 1, m))},
		{forms(form(-c, 1, -c)), steps(step(m, 0, m), step(c, 0, m-1, 0, 1)), forms(form(-c, 1, -c), form(-c, 1, -c), form(-m, 1, -m))},
		{forms(form(0, 1, c), form(0, 1, -c)), steps(step(1, 0, m, 0, m, 1, m, 1, m)), forms(form(0, 1, c), form(0, 1, -c), form(0))},
		{forms(form(0, 1, c, 5, 3), form(0, 1, -c)), steps(step(3, 0, 4, 1, 4)), forms(form(0, 1, c, 5, 3), form(0, 1, -c), form(0, 5, 4))},
		{forms(wide(0, 64, 1), wide(64, 64, 1), wide(63, 2, -1)), steps(step(1, 0, 1, 1, 1, 2, 1)), nil},
		{forms(wide(0, 33, 1), wide(33, 33, 1), wide(32, 2, -1)), steps(step(1, 0, 1, 1, 1, 2, 1)), nil},
		{forms(form(1)), steps(parts(64)), forms(form(1), form(64))},
	} {
		l, err := cut.Lines(x.p, x.s)
		if x.p != nil && len(x.p[0].T) > 32 { // the two long ones
			if i == 11 && (!errors.Is(err, api.ErrLong) || at(err) != 0) || i == 12 && (err != nil || len(l[3].T) != 64) {
				t.Error(i, err)
			}
			continue
		}
		if err != nil || len(l) != len(x.want) {
			t.Error(i, l, err)
			continue
		}
		for j := range l {
			if !lin.Same(l[j], x.want[j]) {
				t.Error(i, j, l[j])
			}
		}
	}
}

func TestLinesErrors(t *testing.T) { // P4.1, R1, R3
	const c, m = api.MaxCoef, api.MaxTimes
	one := forms(form(1), form(1, 0, 1))
	ok := step(1, 0, 1)
	for i, x := range []struct {
		p   []api.Lin
		s   []api.Step
		at  int
		err api.Code
	}{
		{make([]api.Lin, 4097), nil, -1, api.ErrLong}, {nil, make([]api.Step, 4097), -1, api.ErrLong},
		{forms(form(0, 0, 0)), make([]api.Step, 4097), -1, api.ErrLong},
		{forms(form(0), form(0, 0, 0), form(c+1)), steps(step(0)), 1, api.ErrForm}, {forms(form(c + 1)), nil, 0, api.ErrForm},
		{one, steps(ok, parts(65), step(0)), 1, api.ErrLong}, {one, steps(step(0), parts(65)), 0, api.ErrArg},
		{one, steps(api.Step{Parts: append(make1(64), api.Part{Line: -1}), Div: 0}), 0, api.ErrLong},
		{one, steps(step(1, 2, 1)), 0, api.ErrLine}, {one, steps(ok, step(1, 3, 1)), 1, api.ErrLine}, {one, steps(ok, step(1, 2, 1), step(1, 4, 1)), -2, 0},
		{one, steps(step(1, -1, 1)), 0, api.ErrLine}, {one, steps(step(1, math.MinInt, 1)), 0, api.ErrLine}, {one, steps(step(0, -1, 0)), 0, api.ErrLine},
		{one, steps(step(1, 0, 0)), 0, api.ErrArg}, {one, steps(step(1, 0, m+1)), 0, api.ErrArg}, {one, steps(step(1, 0, -1)), 0, api.ErrArg},
		{one, steps(step(1, 0, 0, 9, 1)), 0, api.ErrArg}, {one, steps(step(1, 0, 1, 9, 0)), 0, api.ErrLine}, {one, steps(step(1, 9, 1, 0, 0)), 0, api.ErrLine},
		{one, steps(step(0, 0, 1)), 0, api.ErrArg}, {one, steps(step(-1, 0, 1)), 0, api.ErrArg}, {one, steps(step(c+1, 0, 1)), 0, api.ErrArg}, {one, steps(step(math.MinInt)), 0, api.ErrArg},
		{forms(form(c)), steps(step(m, 0, m, 0, 1)), 0, api.ErrFar}, {forms(form(-c)), steps(step(m, 0, m, 0, 1)), 0, api.ErrFar},
		{forms(form(0, 2, c)), steps(step(m, 0, m, 0, 1)), 0, api.ErrFar}, {forms(form(0, 2, -c)), steps(step(m, 0, m, 0, m)), 0, api.ErrFar},
		{forms(form(0, 2, 1, 3, c)), steps(step(2, 0, m, 0, 1)), 0, api.ErrFar}, // far ahead of the division
		{one, steps(step(2, 1, 1)), 0, api.ErrDiv}, {forms(form(0, 0, 2, 1, 4, 5, 3)), steps(ok, step(2, 0, 1)), 1, api.ErrDiv}, {forms(form(0, 0, -3)), steps(step(2, 0, 1)), 0, api.ErrDiv},
		{forms(form(0, 0, 3, 1, c)), steps(step(2, 0, 3)), 0, api.ErrDiv}, // the division ahead of what it tells
		{forms(form(c), form(1)), steps(step(m, 0, m, 1, 1)), 0, api.ErrFar}, {forms(form(-c), form(-1)), steps(step(m, 0, m, 1, 1)), 0, api.ErrFar},
		{forms(form(0, 2, c), form(0, 2, 1)), steps(step(2, 0, m, 1, 1)), 0, api.ErrFar}, {forms(form(0, 2, -c), form(0, 2, -1)), steps(step(2, 0, m, 1, 1)), 0, api.ErrFar},
		{forms(form(c), form(1)), steps(step(1, 0, 1, 1, 1)), 0, api.ErrFar}, {forms(form(-c), form(-1)), steps(step(1, 0, 1, 1, 1)), 0, api.ErrFar},
		{forms(form(0, 7, c), form(0, 7, 1)), steps(step(1, 0, 1, 1, 1)), 0, api.ErrFar}, {forms(form(0, 7, -c), form(0, 7, -1)), steps(step(1, 0, 1, 1, 1)), 0, api.ErrFar},
		{forms(form(c)), steps(step(1, 0, 2)), 0, api.ErrFar}, {forms(form(-c)), steps(step(1, 0, 2)), 0, api.ErrFar},
		{forms(form(0, 7, c)), steps(step(1, 0, 2)), 0, api.ErrFar}, {forms(form(0, 7, -c)), steps(step(1, 0, 2)), 0, api.ErrFar}, {forms(form(c, 7, c)), steps(step(2, 0, 3)), 0, api.ErrFar},
		{forms(wide(0, 64, 1), form(0, 64, 1)), steps(ok, step(1, 0, 1, 1, 1)), 1, api.ErrLong},
		{forms(wide(0, 64, 1), form(c, 64, 1)), steps(step(1, 0, 1, 1, 2)), 0, api.ErrFar}, // far ahead of long
	} {
		l, err := cut.Lines(x.p, x.s)
		if x.err == 0 {
			continue
		}
		if !errors.Is(err, x.err) || at(err) != x.at || x.at < 0 && err != error(x.err) || len(l) != 0 {
			t.Error(i, l, err)
		}
		if err := cut.Refutes(x.p, x.s); !errors.Is(err, x.err) || at(err) != x.at {
			t.Error(i, err)
		}
	}
}

func TestMost(t *testing.T) { // P4.1: as many as may be
	many := make([]api.Step, 4096)
	for i := range many {
		many[i] = step(1, 4095+i, 1)
	}
	if l, err := cut.Lines(make([]api.Lin, 4096), many); err != nil || len(l) != 8192 {
		t.Error(len(l), err)
	}
	if err := cut.Refutes(append(make([]api.Lin, 4095), form(1)), many); err != nil {
		t.Error(err)
	}
}

func TestRefutes(t *testing.T) { // P4.2
	for i, x := range []struct {
		p   []api.Lin
		s   []api.Step
		err error
	}{
		{forms(form(-1, 0, 1), form(2, 0, -1)), steps(step(1, 0, 1, 1, 1)), nil},
		{forms(form(-1, 0, 2), form(1, 0, -2)), steps(step(2, 0, 1), step(2, 1, 1), step(1, 2, 1, 3, 1)), nil},
		{forms(form(0), form(1)), nil, nil}, {forms(form(-1, 0, 1), form(2, 0, -1)), steps(step(1, 0, 1, 1, 1), step(1)), nil},
		{nil, nil, api.ErrOpen}, {forms(form(0)), nil, api.ErrOpen}, {forms(form(-1)), steps(step(1)), api.ErrOpen}, {forms(form(1, 0, 1)), nil, api.ErrOpen},
		{forms(form(-1, 0, 1), form(1, 0, -1)), steps(step(1, 0, 1, 1, 1)), api.ErrOpen},
		{forms(form(-1, 0, 2), form(1, 0, -2)), steps(step(1, 0, 1, 1, 1)), api.ErrOpen},
	} {
		if err := cut.Refutes(x.p, x.s); err != x.err {
			t.Error(i, err)
		}
	}
}

func TestFollows(t *testing.T) { // P4.4
	r := rand.New(rand.NewSource(4))
	told := 0
	for i := 0; i < 20000; i++ {
		values := []int{r.Intn(21) - 10, r.Intn(21) - 10, r.Intn(21) - 10}
		var p []api.Lin
		for j := 0; j < 3; j++ {
			var l api.Lin
			for v := range values {
				if k := 2 * (r.Intn(7) - 3); k != 0 {
					l.T = append(l.T, api.Mono{V: v, K: k})
				}
			}
			n, _ := lin.Value(l, values)
			l.C = -n - r.Intn(3)
			p = append(p, l)
		}
		var s []api.Step
		for j := 0; j < 3; j++ {
			s = append(s, step(1+r.Intn(3), r.Intn(3+j), 1+r.Intn(4), r.Intn(3+j), 1+r.Intn(4)))
		}
		l, err := cut.Lines(p, s)
		if err != nil {
			continue
		}
		told++
		for _, x := range l {
			if n, _ := lin.Value(x, values); n > 0 {
				t.Fatal(p, s, values, x)
			}
		}
		if cut.Refutes(p, s) == nil {
			t.Fatal("refuted what is so", p, s, values)
		}
	}
	if told < 1000 {
		t.Error("too few", told)
	}
}

func TestMemory(t *testing.T) { // P4.3, R2
	made := func() ([]api.Lin, []api.Step) {
		return forms(form(-1, 0, 2, 1, 4), form(1, 0, -2)), steps(step(2, 0, 1), step(2, 1, 1), step(1, 2, 1, 3, 1))
	}
	p, s := made()
	l, _ := cut.Lines(p, s)
	for i := range l {
		for j := range l[i].T {
			l[i].T[j] = api.Mono{V: 9, K: 9}
		}
	}
	wantP, wantS := made()
	if !reflect.DeepEqual(p, wantP) || !reflect.DeepEqual(s, wantS) {
		t.Error("changed, or shared", p)
	}
	a, _ := cut.Lines(p, s)
	b, _ := cut.Lines(p, s)
	if !reflect.DeepEqual(a, b) || !lin.Same(a[4], form(1, 1, 2)) {
		t.Error("another answer", a)
	}
}
