package heap_test

import (
	"math"
	"math/rand"
	"reflect"
	"slices"
	"testing"

	"trammel/api"
	"trammel/heap"
)

func c(addr int, field string, val int) api.Cell { return api.Cell{Addr: addr, Field: field, Val: val} }
func h(l ...api.Cell) []api.Cell                 { return l }
func s(addr int, field string, n int) api.Share  { return api.Share{Addr: addr, Field: field, N: n} }
func shares(l ...api.Share) []api.Share          { return l }

func TestCheck(t *testing.T) { // P17.1
	const w = api.MaxWide
	for i, x := range [][]api.Cell{nil, h(), h(c(1, "f", 0)), h(c(w, "f", w)), h(c(1, "", -w)), h(c(1, "", 0), c(1, "A", 0), c(1, "a", 0), c(1, "a\x00", 0), c(1, "ab", 0), c(1, "b", 0), c(1, "\xff", 0)), h(c(1, "z", 0), c(2, "a", 0), c(10, "a", 0))} {
		if err := heap.Check(x); err != nil {
			t.Error(i, err)
		}
	}
	for i, x := range [][]api.Cell{
		h(c(0, "f", 0)), h(c(-1, "f", 0)), h(c(w+1, "f", 0)), h(c(math.MinInt, "f", 0)), h(c(1, "f", w+1)), h(c(1, "f", -w-1)), h(c(1, "f", math.MinInt)), h(c(1, "f", math.MaxInt)), h(c(2, "f", 0), c(1, "f", 0)), h(c(1, "f", 0), c(1, "f", 0)), h(c(1, "f", 0), c(1, "f", 1)),
		h(c(1, "b", 0), c(1, "a", 0)), h(c(1, "a", 0), c(1, "A", 0)), h(c(1, "é", 0), c(1, "z", 0)), h(c(1, "a", 0), c(2, "a", 0), c(1, "b", 0)), h(c(1, "f", 0), c(2, "f", 0), c(w+1, "f", 0)), h(c(0, "f", 0), c(1, "f", 0)),
	} {
		if err := heap.Check(x); err != error(api.ErrForm) {
			t.Error(i, err)
		}
	}
}

func TestExamples(t *testing.T) { // P17.2, P17.3
	a := heap.Set(nil, 3, "f", 7)
	if !slices.Equal(a, h(c(3, "f", 7))) || heap.Fresh(a) != 4 || heap.Fresh(nil) != 1 {
		t.Error(a)
	}
	if l := heap.Join(shares(s(3, "f", 1)), shares(s(3, "f", 2))); !slices.Equal(l, shares(s(3, "f", 3))) {
		t.Error(l)
	}
}

func TestCells(t *testing.T) { // P17.2, R3; numbers may be whatever they are
	odd := h(c(math.MinInt, "f", 5), c(-3, "", math.MaxInt), c(-3, "f", 1), c(0, "f", math.MinInt), c(8, "b", 2), c(8, "c", 3))
	for _, x := range odd {
		if v, err := heap.Get(odd, x.Addr, x.Field); v != x.Val || err != nil {
			t.Error(x, v, err)
		}
		l, err := heap.Drop(odd, x.Addr, x.Field)
		if _, gone := heap.Get(l, x.Addr, x.Field); err != nil || len(l) != len(odd)-1 || gone != error(api.ErrNone) {
			t.Error(x, l, err)
		}
		if l := heap.Set(odd, x.Addr, x.Field, 99); len(l) != len(odd) {
			t.Error(x, l)
		}
	}
	for _, x := range []api.Cell{c(8, "a", 0), c(8, "bb", 0), c(8, "d", 0), c(7, "b", 0), c(9, "b", 0), c(math.MaxInt, "f", 0), c(math.MinInt, "e", 0), c(-3, "g", 0), c(8, "", 0)} {
		if v, err := heap.Get(odd, x.Addr, x.Field); v != 0 || err != error(api.ErrNone) {
			t.Error(x, v, err)
		}
		if l, err := heap.Drop(odd, x.Addr, x.Field); len(l) != 0 || err != error(api.ErrNone) {
			t.Error(x, l, err)
		}
		l := heap.Set(odd, x.Addr, x.Field, 42)
		if v, err := heap.Get(l, x.Addr, x.Field); v != 42 || err != nil || len(l) != len(odd)+1 {
			t.Error(x, l, err)
		}
	}
	if l := heap.Set(odd, 8, "bb", 4); !slices.Equal(l[4:], h(c(8, "b", 2), c(8, "bb", 4), c(8, "c", 3))) {
		t.Error(l)
	}
	if n := heap.Fresh(odd); n != 9 {
		t.Error(n)
	}
	if n := heap.Fresh(odd[:4]); n != 1 {
		t.Error(n)
	}
	if n := heap.Fresh(odd[:3]); n != -2 {
		t.Error(n)
	}
	if _, err := heap.Get(nil, 1, "f"); err != error(api.ErrNone) {
		t.Error(err)
	}
	if l, err := heap.Drop(nil, 1, "f"); err != error(api.ErrNone) || len(l) != 0 {
		t.Error(err)
	}
	wild := h(c(5, "f", 1), c(1, "f", 2), c(5, "f", 3)) // as no heap stands: nothing is promised but an end
	heap.Get(wild, 1, "f")
	heap.Set(wild, 1, "f", 1)
	heap.Drop(wild, 1, "f")
	heap.Fresh(wild)
}

func TestJoin(t *testing.T) { // P17.3
	for i, x := range []struct{ a, b, want []api.Share }{
		{nil, nil, nil}, {shares(s(1, "f", 1)), nil, shares(s(1, "f", 1))}, {nil, shares(s(1, "f", 1)), shares(s(1, "f", 1))},
		{shares(s(2, "f", 1), s(1, "g", 2), s(1, "f", 3)), shares(s(1, "g", 4), s(0, "z", 5)), shares(s(0, "z", 5), s(1, "f", 3), s(1, "g", 6), s(2, "f", 1))},
		{shares(s(1, "f", 1), s(2, "f", 1), s(1, "f", 1)), shares(s(1, "f", 60)), shares(s(1, "f", 62), s(2, "f", 1))}, // those of one list, too
		{shares(s(1, "f", 64), s(1, "f", 64)), nil, shares(s(1, "f", 128))}, {shares(s(1, "f", 0), s(-1, "", -5)), shares(s(1, "f", 0), s(-1, "", 5)), shares(s(-1, "", 0), s(1, "f", 0))},
		{shares(s(10, "a", 1), s(9, "b", 1), s(9, "B", 1)), nil, shares(s(9, "B", 1), s(9, "b", 1), s(10, "a", 1))},
	} {
		if l := heap.Join(x.a, x.b); !slices.Equal(l, x.want) {
			t.Error(i, l)
		}
	}
}

func TestRuns(t *testing.T) { // P17.5
	r := rand.New(rand.NewSource(19))
	var l []api.Cell
	is := map[api.Cell]int{}
	for i := 0; i < 5000; i++ {
		k := c(1+r.Intn(8), []string{"", "a", "b", "ab"}[r.Intn(4)], 0)
		_, there := is[k]
		if r.Intn(2) == 0 {
			n, err := heap.Drop(l, k.Addr, k.Field)
			if there != (err == nil) {
				t.Fatal(l, k, err)
			}
			if there {
				l = n
				delete(is, k)
			}
		} else {
			l = heap.Set(l, k.Addr, k.Field, i)
			is[k] = i
		}
		if heap.Check(l) != nil || len(l) != len(is) {
			t.Fatal(l)
		}
		for k, n := range is {
			if v, err := heap.Get(l, k.Addr, k.Field); v != n || err != nil || k.Addr >= heap.Fresh(l) {
				t.Fatal(l, k, v, err)
			}
		}
	}
}

func TestMemory(t *testing.T) { // P17.4, R2
	made := func() []api.Cell { return append(make([]api.Cell, 0, 9), c(1, "f", 1), c(2, "f", 2), c(3, "f", 3)) }
	x := made()
	for _, l := range [][]api.Cell{heap.Set(x, 2, "f", 9), heap.Set(x, 2, "g", 9), heap.Set(x, 9, "g", 9), heap.Set(x, 0, "g", 9)} {
		for i := range l {
			l[i] = c(7, "spoilt", 7)
		}
	}
	for _, k := range []int{1, 2, 3} {
		l, _ := heap.Drop(x, k, "f")
		for i := range l {
			l[i] = c(7, "spoilt", 7)
		}
	}
	a, b := append(make([]api.Share, 0, 9), s(2, "f", 1), s(1, "f", 1)), shares(s(1, "f", 1))
	for _, l := range [][]api.Share{heap.Join(a, b), heap.Join(a, nil), heap.Join(nil, a)} {
		l[0] = s(7, "spoilt", 7)
	}
	if !reflect.DeepEqual(x, made()) || x[:4][3] != (api.Cell{}) || !slices.Equal(a, shares(s(2, "f", 1), s(1, "f", 1))) || !slices.Equal(b, shares(s(1, "f", 1))) {
		t.Error("changed, or shared")
	}
}
