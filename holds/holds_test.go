package holds_test

import (
	"math"
	"math/rand"
	"reflect"
	"slices"
	"testing"

	"trammel/api"
	"trammel/heap"
	"trammel/holds"
	"trammel/parse"
)

const wide = api.MaxWide

func num(n int) api.Expr             { return api.Expr{N: n} }
func v(s string) api.Expr            { return api.Expr{Kind: api.EVar, Name: s} }
func add(a, b api.Expr) api.Expr     { return api.Expr{Kind: api.EAdd, Kids: []api.Expr{a, b}} }
func sub(a, b api.Expr) api.Expr     { return api.Expr{Kind: api.ESub, Kids: []api.Expr{a, b}} }
func mul(n int, a api.Expr) api.Expr { return api.Expr{Kind: api.EMul, N: n, Kids: []api.Expr{a}} }

// cond and assn are parsed.
func cond(t *testing.T, src string) api.Cond {
	t.Helper()
	p, err := parse.Parse("proc p(;) requires emp ensures emp {assert " + src + ";}")
	if err != nil {
		t.Fatal(src, err)
	}
	return p.Procs[0].Body[0].C
}

func assn(t *testing.T, src string) api.Assn {
	t.Helper()
	p, err := parse.Parse("proc p(;) requires " + src + " ensures emp {}")
	if err != nil {
		t.Fatal(src, err)
	}
	return p.Procs[0].Pre
}

func deep(n int) api.Expr {
	e := num(1)
	for ; n > 1; n-- {
		e = mul(1, e)
	}
	return e
}

var vars = []api.Var{{Name: "x", Val: 3}, {Name: "y", Val: -4}, {Name: "x", Val: 77}, {Name: "top", Val: wide}, {Name: "low", Val: -wide}, {Name: "far", Val: wide + 1}, {Name: "under", Val: -wide - 1}, {Name: "most", Val: math.MaxInt}, {Name: "least", Val: math.MinInt}}

func TestExpr(t *testing.T) { // P18.1, R3
	for i, x := range []struct {
		e    api.Expr
		want int
		err  error
	}{
		{sub(mul(2, v("x")), num(1)), 5, nil}, {v("x"), 3, nil}, {v("none"), 0, nil}, {num(-7), -7, nil}, {add(v("x"), v("y")), -1, nil}, {sub(v("x"), v("y")), 7, nil}, {mul(-3, v("y")), 12, nil}, {mul(0, v("x")), 0, nil},
		{v("top"), wide, nil}, {v("low"), -wide, nil}, {v("far"), 0, api.ErrFar}, {v("under"), 0, api.ErrFar}, {v("most"), 0, api.ErrFar}, {v("least"), 0, api.ErrFar},
		{add(v("top"), num(1)), 0, api.ErrFar}, {sub(v("low"), num(1)), 0, api.ErrFar}, {add(v("top"), v("low")), 0, nil}, {sub(v("top"), v("top")), 0, nil}, {sub(v("top"), v("low")), 0, api.ErrFar},
		{sub(add(v("top"), num(1)), num(1)), 0, api.ErrFar}, {mul(0, v("far")), 0, api.ErrFar}, {mul(0, add(v("top"), num(1))), 0, api.ErrFar}, {add(v("far"), v("under")), 0, api.ErrFar}, // a Kid's counts
		{mul(1<<30, v("top")), 0, api.ErrFar}, {mul(-1<<30, mul(4, num(1))), -wide, nil}, {mul(1<<30, num(4)), wide, nil}, {mul(1<<30, num(5)), 0, api.ErrFar}, {add(mul(1<<30, num(4)), num(0)), wide, nil},
		{num(api.MaxCoef + 1), 0, api.ErrForm}, {v("1"), 0, api.ErrForm}, {v(""), 0, api.ErrForm}, {v("get"), 0, api.ErrForm}, {api.Expr{Kind: 9}, 0, api.ErrForm}, {api.Expr{Kind: api.EAdd}, 0, api.ErrForm}, {add(v("far"), num(1<<30+1)), 0, api.ErrForm},
		{deep(99), 1, nil}, {deep(100), 0, api.ErrForm}, {deep(5000), 0, api.ErrForm},
	} {
		if n, err := holds.Expr(x.e, vars); n != x.want || err != x.err {
			t.Error(i, n, err)
		}
	}
	if n, err := holds.Expr(v("x"), nil); n != 0 || err != nil {
		t.Error(n, err)
	}
}

func TestCond(t *testing.T) { // P18.1, R3
	for src, want := range map[string]bool{
		"true": true, "false": false, "x==3": true, "x==4": false, "x!=3": false, "x!=4": true, "x<3": false, "x<4": true, "x<=3": true, "x<=2": false, "y<-3": true, "2*x<=x+x": true, "!x==3": false, "!false": true,
		"true&&false": false, "true&&true": true, "false&&true": false, "false||false": false, "true||false": true, "false||true": true, "none==0": true, "![x==3&&y==3]": true, "low<top": true,
	} {
		if is, err := holds.Cond(cond(t, src), vars); is != want || err != nil {
			t.Error(src, is, err)
		}
	}
	for _, src := range []string{"far==0", "0==far", "far==far", "true||far==0", "far==0||true", "false&&far==0", "!far==0", "0*far==0", "top+1!=low", "true||true&&[false||under<1]"} { // wherever it stands
		if is, err := holds.Cond(cond(t, src), vars); is || err != error(api.ErrFar) {
			t.Error(src, is, err)
		}
	}
	bad := cond(t, "far==0")
	bad.E = bad.E[:1]
	deepCond := func(n int) api.Cond { return api.Cond{Kind: api.CEq, E: []api.Expr{v("x"), deep(n)}} }
	for i, c := range []api.Cond{bad, {Kind: 9}, {Kind: api.CNot}, {Kind: api.COr, Kids: []api.Cond{{}, {Kind: api.CAnd}}}, deepCond(99)} {
		if is, err := holds.Cond(c, vars); is || err != error(api.ErrForm) {
			t.Error(i, is, err)
		}
	}
	if _, err := holds.Cond(deepCond(98), vars); err != nil {
		t.Error(err)
	}
}

func s(addr int, field string, n int) api.Share { return api.Share{Addr: addr, Field: field, N: n} }

var cells = []api.Cell{{Addr: 3, Field: "f", Val: 7}, {Addr: 3, Field: "g", Val: 0}, {Addr: 4, Field: "f", Val: -4}, {Addr: wide, Field: "f", Val: wide}}

func TestAssertions(t *testing.T) { // P18.1
	for i, x := range []struct {
		src  string
		is   bool
		foot []api.Share
	}{
		{"pts(x.f,32,7)", true, []api.Share{s(3, "f", 32)}}, {"emp", true, nil}, {"[true]", true, nil}, {"[x==4]", false, nil}, {"acc(x.f,64)", true, []api.Share{s(3, "f", 64)}}, {"acc(x.h,1)", false, []api.Share{s(3, "h", 1)}}, {"acc(y.f,1)", false, []api.Share{s(-4, "f", 1)}}, {"acc(0.f,1)", false, []api.Share{s(0, "f", 1)}},
		{"pts(x.f,1,8)", false, []api.Share{s(3, "f", 1)}}, {"pts(4.f,1,y)", true, []api.Share{s(4, "f", 1)}}, {"pts(5.f,1,0)", false, []api.Share{s(5, "f", 1)}}, {"pts(top.f,1,top)", true, []api.Share{s(wide, "f", 1)}},
		{"acc(4.f,1)&acc(3.g,2)&acc(3.f,3)", true, []api.Share{s(3, "f", 3), s(3, "g", 2), s(4, "f", 1)}}, {"acc(x.f,30)&(emp&pts(2+1.f,34,7))", true, []api.Share{s(3, "f", 64)}},
		{"acc(x.f,31)&acc(x.f,34)", false, []api.Share{s(3, "f", 65)}}, {"acc(x.f,65)", false, []api.Share{s(3, "f", 65)}}, {"acc(x.f,32)&acc(x.g,64)&acc(3.f,32)", true, []api.Share{s(3, "f", 64), s(3, "g", 64)}},
		{"[false]&acc(x.f,1)", false, []api.Share{s(3, "f", 1)}}, {"acc(x.f,1)&[false]", false, []api.Share{s(3, "f", 1)}}, {"acc(x.f,1)&acc(x.h,1)", false, []api.Share{s(3, "f", 1), s(3, "h", 1)}}, {"acc(x.h,1)&acc(x.f,1)", false, []api.Share{s(3, "f", 1), s(3, "h", 1)}},
		{"if x==3{acc(x.f,1)}else{acc(9.f,1)}", true, []api.Share{s(3, "f", 1)}}, {"if x==4{acc(x.f,1)}else{acc(9.f,1)}", false, []api.Share{s(9, "f", 1)}}, {"if false{[false]}else{emp}", true, nil}, {"if true{emp}else{[false]}", true, nil},
		{"if true{acc(x.f,33)}else{emp}&acc(x.f,32)", false, []api.Share{s(3, "f", 65)}}, {"if true{emp}else{acc(far.f,1)}", true, nil}, {"if false{[far==0]}else{acc(x.f,1)}", true, []api.Share{s(3, "f", 1)}}, // what doesn't count isn't far
		{"pts(x.f,32,7)&pts(x.f,32,8)", false, []api.Share{s(3, "f", 64)}},
	} {
		a := assn(t, x.src)
		is, err := holds.Holds(a, vars, cells)
		foot, err2 := holds.Foot(a, vars)
		if is != x.is || err != nil || !slices.Equal(foot, x.foot) || err2 != nil {
			t.Error(i, x.src, is, err, foot, err2)
		}
	}
	if is, err := holds.Holds(assn(t, "acc(1.f,1)"), nil, nil); is || err != nil {
		t.Error(is, err)
	}
}

func TestFar(t *testing.T) { // P18.1, R3
	for _, src := range []string{
		"[far==0]", "acc(far.f,1)", "pts(x.f,1,far)", "pts(under.f,1,0)", "acc(x.f,1)&acc(top+1.f,1)", "acc(far.f,1)&[false]", "[false]&acc(far.f,1)", "acc(x.h,1)&[true||far==0]", "if far==0{emp}else{emp}", "if true{acc(far.f,1)}else{emp}", "if false{emp}else{emp&[0*far==0]}", "if true||far==0{emp}else{emp}", "acc(x.f,64)&acc(x.f,64)&acc(far.f,1)", "pts(x.f,1,7)&pts(x.f,1,low-1)",
	} {
		a := assn(t, src)
		is, err := holds.Holds(a, vars, cells)
		foot, err2 := holds.Foot(a, vars)
		if is || err != error(api.ErrFar) || len(foot) != 0 || err2 != error(api.ErrFar) {
			t.Error(src, is, err, foot, err2)
		}
	}
}

func TestWrong(t *testing.T) { // P18.1, R1, R3
	long := api.Assn{}
	for i := 0; i < 98; i++ {
		long = api.Assn{Kind: api.ASep, Kids: []api.Assn{long, {}}}
	}
	if is, err := holds.Holds(long, vars, cells); !is || err != nil {
		t.Error(is, err)
	}
	for i, a := range []api.Assn{{Kind: 9}, {N: 1}, {Kind: api.ASep}, {Kind: api.AAcc, E: v("far"), N: 1}, {Kind: api.AAcc, E: v("far"), Field: "f", N: -1}, {Kind: api.APts, E: v("far"), V: num(1 << 31), Field: "f", N: 1}, {Kind: api.ASep, Kids: []api.Assn{long, {}}}} {
		is, err := holds.Holds(a, vars, cells)
		foot, err2 := holds.Foot(a, vars)
		if is || err != error(api.ErrForm) || len(foot) != 0 || err2 != error(api.ErrForm) {
			t.Error(i, is, err, foot, err2)
		}
	}
	for i, h := range [][]api.Cell{{{Addr: 0, Field: "f"}}, {{Addr: 2, Field: "f"}, {Addr: 1, Field: "f"}}, {{Addr: 1, Val: wide + 1}}} {
		for _, src := range []string{"emp", "acc(far.f,1)"} {
			if is, err := holds.Holds(assn(t, src), vars, h); is || err != error(api.ErrForm) {
				t.Error(i, is, err)
			}
		}
	}
}

func TestCellsThatCount(t *testing.T) { // P18.3
	r := rand.New(rand.NewSource(20))
	for i := 0; i < 500; i++ {
		src := []string{"acc(x.f,3)&[y<1]", "pts(x.f,3,y)&acc(2.g,64)", "if x<2{pts(1.g,64,1)}else{emp}", "acc(1.f,32)&acc(x.f,32)", "emp"}[r.Intn(5)]
		l := []api.Var{{Name: "x", Val: 1 + r.Intn(3)}, {Name: "y", Val: r.Intn(2)}}
		var h, few []api.Cell
		for n := r.Intn(7); n > 0; n-- {
			h = heap.Set(h, 1+r.Intn(3), []string{"f", "g"}[r.Intn(2)], r.Intn(2))
		}
		a := assn(t, src)
		foot, _ := holds.Foot(a, l)
		for _, c := range h {
			if slices.ContainsFunc(foot, func(s api.Share) bool { return s.Addr == c.Addr && s.Field == c.Field }) {
				few = append(few, c)
			}
		}
		is, _ := holds.Holds(a, l, h)
		if alone, err := holds.Holds(a, l, few); alone != is || err != nil {
			t.Fatal(src, l, h, is, alone, err)
		}
	}
}

func TestMemory(t *testing.T) { // P18.2, R2
	made := func() (api.Assn, []api.Var, []api.Cell) {
		return assn(t, "acc(4.f,1)&if x==3{acc(3.f,2)&[x==1+2]}else{emp}"), slices.Clone(vars), slices.Clone(cells)
	}
	a, l, h := made()
	foot, _ := holds.Foot(a, l)
	foot[0] = s(9, "spoilt", 9)
	holds.Holds(a, l, h)
	holds.Cond(a.Kids[1].C, l)
	holds.Expr(a.Kids[0].E, l)
	wantA, wantL, wantH := made()
	again, _ := holds.Foot(a, l)
	if !reflect.DeepEqual(a, wantA) || !slices.Equal(l, wantL) || !slices.Equal(h, wantH) || !slices.Equal(again, []api.Share{s(3, "f", 2), s(4, "f", 1)}) {
		t.Error("changed, or kept")
	}
}
