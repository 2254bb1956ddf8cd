package run_test

import (
	"errors"
	"math"
	"reflect"
	"slices"
	"testing"

	"trammel/api"
	"trammel/parse"
	"trammel/run"
)

const wide = api.MaxWide

func prog(t *testing.T, src string) api.Program {
	t.Helper()
	p, err := parse.Parse(src)
	if err != nil {
		t.Fatal(src, err)
	}
	return p
}

// in is a procedure p of parameters x and y, one that adds, and one that counts down by calls.
func in(body string) string {
	return "proc p(x,y;u) requires [false] ensures [false] {" + body + "}" +
		"proc add(a,b;c) requires [false] ensures [false] {res:=a+b;a2:=7;}" +
		"proc down(n;) requires emp ensures emp {if 0<n{m:=call down(n-1;);res:=m+1;}else{}}"
}

func c(addr int, field string, val int) api.Cell { return api.Cell{Addr: addr, Field: field, Val: val} }
func h(l ...api.Cell) []api.Cell                 { return l }

func TestRun(t *testing.T) { // P19.1
	cells := h(c(3, "f", 7), c(3, "g", 8), c(5, "f", 9))
	for i, x := range []struct {
		body string
		kind int
		heap []api.Cell
		res  int
	}{
		{"", api.RunDone, cells, 0}, {"skip;", api.RunDone, cells, 0}, {"res:=x;", api.RunDone, cells, 3}, {"res:=z+w;", api.RunDone, cells, 0}, {"res:=res+1;res:=res+1;", api.RunDone, cells, 2},
		{"res:=get x.f;", api.RunDone, cells, 7}, {"res:=get x+2.f;", api.RunDone, cells, 9}, {"res:=get y.f;", api.RunFault, cells, 0}, {"res:=get x.h;", api.RunFault, cells, 0}, {"res:=1;res:=get 0.f;", api.RunFault, cells, 0},
		{"put x.f:=1;", api.RunDone, h(c(3, "f", 1), c(3, "g", 8), c(5, "f", 9)), 0}, {"put x.g:=x+y;res:=get x.g;", api.RunDone, h(c(3, "f", 7), c(3, "g", 2), c(5, "f", 9)), 2}, {"put 4.f:=1;", api.RunFault, cells, 0}, {"put x.f:=1;put x.h:=2;put x.f:=3;", api.RunFault, h(c(3, "f", 1), c(3, "g", 8), c(5, "f", 9)), 0},
		{"free x.f;", api.RunDone, h(c(3, "g", 8), c(5, "f", 9)), 0}, {"free x.f;free x.f;", api.RunFault, h(c(3, "g", 8), c(5, "f", 9)), 0}, {"free y.f;", api.RunFault, cells, 0}, {"free x.f;z:=get x.f;", api.RunFault, h(c(3, "g", 8), c(5, "f", 9)), 0},
		{"res:=new(b,a,b);", api.RunDone, append(slices.Clone(cells), c(6, "a", 0), c(6, "b", 0)), 6}, {"z:=new(f);res:=new(f);", api.RunDone, append(slices.Clone(cells), c(6, "f", 0), c(7, "f", 0)), 7}, {"free 5.f;res:=new(f);", api.RunDone, h(c(3, "f", 7), c(3, "g", 8), c(4, "f", 0)), 4}, {"z:=new(f);put z.f:=5;free 3.f;free 3.g;free 5.f;free z.f;res:=new(g);", api.RunDone, h(c(1, "g", 0)), 1},
		{"if x==3{res:=1;}else{res:=2;}", api.RunDone, cells, 1}, {"if x!=3{res:=1;}else{res:=2;}res:=res+10;", api.RunDone, cells, 12}, {"if true{if false{}else{res:=4;}res:=res+1;}else{res:=get 0.f;}", api.RunDone, cells, 5},
		{"while res<5 invariant [false]{res:=res+2;}", api.RunDone, cells, 6}, {"while false invariant emp{res:=get 0.f;}res:=1;", api.RunDone, cells, 1}, {"while z<3 invariant emp{z:=z+1;w:=0;while w<z invariant emp{w:=w+1;res:=res+1;}}", api.RunDone, cells, 6},
		{"assert x==3;res:=1;", api.RunDone, cells, 1}, {"assert x==4;res:=1;", api.RunFault, cells, 0},
		{"res:=call add(x,y+1;x);", api.RunDone, cells, 3}, {"res:=9;call add(x,y;1);", api.RunDone, cells, 9}, {"a:=1;z:=call add(1,2;3);res:=a+a2+z;", api.RunDone, cells, 4}, {"res:=call down(10;);", api.RunDone, cells, 10}, {"z:=call p2(;);", 0, nil, 0},
		{"res:=4294967296+0;", 0, nil, 0}, {"res:=4*1073741824;", api.RunDone, cells, wide}, {"z:=4*1073741824;res:=z+1;", api.RunFar, cells, 0}, {"z:=4*1073741824;assert true||z+1==0;", api.RunFar, cells, 0}, {"z:=4*1073741824;if z+1==0{}else{}", api.RunFar, cells, 0}, {"z:=-4*1073741824;while z-1==0 invariant emp{}", api.RunFar, cells, 0}, {"z:=4*1073741824;z:=call add(z,1;z+1);", api.RunFar, cells, 0}, {"z:=4*1073741824;z:=call add(1,z+1;0);", api.RunFar, cells, 0}, {"z:=4*1073741824;res:=call add(1,2;z+1);", api.RunDone, cells, 3}, // Ghosts count for nothing
		{"z:=4*1073741824;w:=get z+1.f;", api.RunFar, cells, 0}, {"z:=4*1073741824;free z+1.f;", api.RunFar, cells, 0}, {"z:=4*1073741824;put 0.f:=z+1;", api.RunFar, cells, 0}, {"z:=4*1073741824;put z+1.f:=0;", api.RunFar, cells, 0}, {"z:=4*1073741824;put 3.f:=z+1;", api.RunFar, cells, 0},
	} {
		p, err := parse.Parse(in(x.body))
		if x.kind == 0 { // what isn't a program that means something
			if _, err2 := run.Run(p, "p", []int{3, -1}, nil, 100); err == nil && err2 == nil {
				t.Error(i, x.body)
			}
			continue
		}
		o, err := run.Run(p, "p", []int{3, -1}, cells, 1000)
		if err != nil || o.Kind != x.kind || o.Res != x.res || !slices.Equal(o.Heap, x.heap) {
			t.Error(i, x.body, o, err)
		}
	}
}

func TestWide(t *testing.T) { // P19.1
	src := "proc p(x;) requires emp ensures emp {y:=new(f);res:=y;} proc q(;) requires emp ensures emp {res:=get 1.f;}"
	o, err := run.Run(prog(t, src), "p", []int{wide}, h(c(wide-1, "f", 0)), 10)
	if err != nil || o.Kind != api.RunDone || o.Res != wide || len(o.Heap) != 2 {
		t.Error(o, err)
	}
	o, err = run.Run(prog(t, src), "p", []int{-wide}, h(c(wide, "f", 5)), 10)
	if err != nil || o.Kind != api.RunFar || o.Res != 0 || !slices.Equal(o.Heap, h(c(wide, "f", 5))) {
		t.Error(o, err)
	}
	o, err = run.Run(prog(t, src), "q", nil, h(c(1, "f", -wide)), 10)
	if err != nil || o.Kind != api.RunDone || o.Res != -wide {
		t.Error(o, err)
	}
}

func TestFuel(t *testing.T) { // P19.1, P19.3
	for body, cost := range map[string]int{
		"": 0, "skip;": 1, "skip;skip;skip;": 3, "if true{skip;}else{}": 2, "if false{skip;}else{}": 1, "while z<3 invariant emp{z:=z+1;}": 7, "while false invariant emp{}": 1, "res:=call add(1,2;3);": 3, "res:=call down(2;);": 1 + 3 + 3 + 1, "assert true;z:=new(f);put z.f:=1;free z.f;": 4,
	} {
		p := prog(t, in(body))
		want, err := run.Run(p, "p", []int{1, 2}, nil, cost)
		if err != nil || want.Kind != api.RunDone {
			t.Error(body, want, err)
		}
		for _, fuel := range []int{cost + 1, cost + 100, math.MaxInt} {
			if o, err := run.Run(p, "p", []int{1, 2}, nil, fuel); err != nil || !reflect.DeepEqual(o, want) {
				t.Error(body, fuel, o)
			}
		}
		for _, fuel := range []int{cost - 1, 0, -1, math.MinInt} {
			if o, err := run.Run(p, "p", []int{1, 2}, nil, fuel); fuel < cost && cost > 0 && (err != nil || o.Kind != api.RunOut || o.Res != 0) {
				t.Error(body, fuel, o, err)
			}
		}
	}
	o, _ := run.Run(prog(t, in("res:=1;z:=new(f);z:=new(g);")), "p", []int{1, 2}, nil, 2)
	if o.Kind != api.RunOut || o.Res != 0 || !slices.Equal(o.Heap, h(c(1, "f", 0))) { // the heap as it is then
		t.Error(o)
	}
	o, _ = run.Run(prog(t, in("skip;assert false;")), "p", []int{1, 2}, nil, 1)
	if o.Kind != api.RunOut {
		t.Error(o)
	}
}

func TestMuchFuel(t *testing.T) { // P19.1, P1: a million counts, and calls may go as deep as that
	loop := "proc p(n;) requires emp ensures emp {while res<n invariant emp{res:=res+1;}}"
	if o, err := run.Run(prog(t, loop), "p", []int{499999}, nil, math.MaxInt); err != nil || o.Kind != api.RunDone || o.Res != 499999 {
		t.Error(o, err)
	}
	if o, err := run.Run(prog(t, loop), "p", []int{500000}, nil, math.MaxInt); err != nil || o.Kind != api.RunOut {
		t.Error(o, err)
	}
	if o, err := run.Run(prog(t, in("while true invariant emp{x2:=new(f);}")), "p", []int{1, 2}, nil, math.MaxInt); err != nil || o.Kind != api.RunOut || len(o.Heap) != 500000 {
		t.Error(len(o.Heap), err)
	}
	if o, err := run.Run(prog(t, "proc p(;) requires emp ensures emp {call p(;);}"), "p", nil, nil, math.MaxInt); err != nil || o.Kind != api.RunOut {
		t.Error(o, err)
	}
}

func TestErrors(t *testing.T) { // P19.1, R1, R3
	p := prog(t, in(""))
	twice := prog(t, in("")+in(""))
	for i, x := range []struct {
		p    api.Program
		name string
		args []int
		h    []api.Cell
		err  error
	}{
		{p, "z", nil, nil, api.ErrNone}, {p, "", []int{wide + 1}, nil, api.ErrNone}, {p, "p", nil, nil, api.ErrCount}, {p, "p", []int{1}, h(c(0, "f", 0)), api.ErrCount}, {p, "p", []int{1, 2, 3}, nil, api.ErrCount}, {p, "p", []int{wide + 1}, nil, api.ErrCount},
		{p, "p", []int{1, wide + 1}, nil, api.ErrForm}, {p, "p", []int{-wide - 1, 1}, nil, api.ErrForm}, {p, "p", []int{math.MinInt, 1}, nil, api.ErrForm}, {p, "p", []int{1, 2}, h(c(0, "f", 0)), api.ErrForm}, {p, "p", []int{1, 2}, h(c(2, "f", 0), c(1, "f", 0)), api.ErrForm}, {p, "p", []int{1, 2}, h(c(1, "f", wide+1)), api.ErrForm}, {p, "p", []int{wide, -wide}, nil, nil},
		{api.Program{}, "p", nil, nil, api.ErrNone}, {api.Program{Procs: []api.Proc{{Name: "1"}}}, "z", nil, nil, api.ErrForm},
	} {
		o, err := run.Run(x.p, x.name, x.args, x.h, 10)
		if err != x.err || err != nil && !reflect.DeepEqual(o, api.Outcome{}) {
			t.Error(i, o, err)
		}
	}
	_, err := run.Run(twice, "z", nil, nil, 10)
	var s *api.Spot
	if !errors.As(err, &s) || s.At != 3 || s.Err != error(api.ErrTwice) {
		t.Error(err)
	}
}

func TestMemory(t *testing.T) { // P19.2, R2
	src := in("put 3.f:=1;free 4.f;z:=new(g,f,g);while res<3 invariant emp{res:=res+1;}")
	made := func() []api.Cell { return append(make([]api.Cell, 0, 9), c(3, "f", 7), c(4, "f", 8), c(5, "f", 9)) }
	p, l, args := prog(t, src), made(), []int{1, 2}
	a, _ := run.Run(p, "p", args, l, 100)
	b, _ := run.Run(p, "p", args, l, 100)
	a.Heap[0] = c(9, "spoilt", 9)
	if !reflect.DeepEqual(p, prog(t, src)) || !slices.Equal(l, made()) || l[:4][3] != (api.Cell{}) || !slices.Equal(args, []int{1, 2}) || b.Heap[0] != c(3, "f", 1) {
		t.Error("changed, or shared")
	}
}
