package show_test

import (
	"math"
	"math/rand"
	"reflect"
	"strings"
	"testing"

	"trammel/api"
	"trammel/parse"
	"trammel/scan"
	"trammel/show"
)

func num(n int) api.Expr             { return api.Expr{N: n} }
func v(s string) api.Expr            { return api.Expr{Kind: api.EVar, Name: s} }
func add(a, b api.Expr) api.Expr     { return api.Expr{Kind: api.EAdd, Kids: []api.Expr{a, b}} }
func sub(a, b api.Expr) api.Expr     { return api.Expr{Kind: api.ESub, Kids: []api.Expr{a, b}} }
func mul(n int, a api.Expr) api.Expr { return api.Expr{Kind: api.EMul, N: n, Kids: []api.Expr{a}} }
func eq(a, b api.Expr) api.Cond      { return api.Cond{Kind: api.CEq, E: []api.Expr{a, b}} }
func con(k int, l ...api.Cond) api.Cond {
	return api.Cond{Kind: k, Kids: l}
}
func pure(c api.Cond) api.Assn   { return api.Assn{Kind: api.APure, C: c} }
func sep(a, b api.Assn) api.Assn { return api.Assn{Kind: api.ASep, Kids: []api.Assn{a, b}} }
func acc(n int) api.Assn         { return api.Assn{Kind: api.AAcc, E: v("x"), Field: "f", N: n} }

func prog(s ...api.Stmt) api.Program {
	return api.Program{Procs: []api.Proc{{Name: "p", Body: s}}}
}

func set(e api.Expr) api.Program {
	return prog(api.Stmt{Kind: api.SSet, Name: "x", E: e})
}
func assert(c api.Cond) api.Program { return prog(api.Stmt{Kind: api.SAssert, C: c}) }
func pre(a api.Assn) api.Program {
	return api.Program{Procs: []api.Proc{{Name: "p", Pre: a}}}
}

const head = "proc p ( ; ) requires emp ensures emp { "

func TestText(t *testing.T) { // P15.2
	a, b, c := eq(v("a"), num(1)), con(api.CTrue), con(api.CFalse)
	skip := api.Stmt{}
	for i, x := range []struct {
		p    api.Program
		want string
	}{
		{api.Program{}, ""}, {prog(), "proc p ( ; ) requires emp ensures emp { }"},
		{api.Program{Procs: []api.Proc{{Name: "p", Params: []string{"x"}, Body: []api.Stmt{{Kind: api.SSet, Name: "x", E: sub(mul(2, v("x")), num(1))}}}}}, "proc p ( x ; ) requires emp ensures emp { x := 2 * x - 1 ; }"},
		{api.Program{Procs: []api.Proc{{Name: "p", Params: []string{"a", "b"}, Ghosts: []string{"u", "v", "w"}}, {Name: "p"}}}, "proc p ( a , b ; u , v , w ) requires emp ensures emp { } proc p ( ; ) requires emp ensures emp { }"},
		{set(num(-7)), head + "x := - 7 ; }"}, {set(num(0)), head + "x := 0 ; }"}, {set(num(-1 << 30)), head + "x := - 1073741824 ; }"}, {set(mul(1<<30, num(1<<30))), head + "x := 1073741824 * 1073741824 ; }"},
		{set(add(add(num(1), num(2)), num(3))), head + "x := 1 + 2 + 3 ; }"}, {set(add(num(1), add(num(2), num(3)))), head + "x := 1 + ( 2 + 3 ) ; }"}, {set(sub(num(1), sub(num(2), num(-3)))), head + "x := 1 - ( 2 - - 3 ) ; }"},
		{set(mul(-2, mul(3, add(v("y"), num(1))))), head + "x := - 2 * 3 * ( y + 1 ) ; }"}, {set(mul(2, sub(v("y"), mul(0, num(-1))))), head + "x := 2 * ( y - 0 * - 1 ) ; }"}, {set(add(mul(2, v("x")), mul(3, v("y")))), head + "x := 2 * x + 3 * y ; }"},
		{assert(con(api.COr, con(api.COr, a, b), c)), head + "assert a == 1 || true || false ; }"}, {assert(con(api.COr, a, con(api.COr, b, c))), head + "assert a == 1 || [ true || false ] ; }"},
		{assert(con(api.COr, con(api.CAnd, a, b), con(api.CAnd, b, c))), head + "assert a == 1 && true || true && false ; }"}, {assert(con(api.CAnd, con(api.COr, a, b), con(api.COr, b, c))), head + "assert [ a == 1 || true ] && [ true || false ] ; }"},
		{assert(con(api.CAnd, con(api.CAnd, a, b), con(api.CAnd, b, c))), head + "assert a == 1 && true && [ true && false ] ; }"}, {assert(con(api.CNot, con(api.CNot, a))), head + "assert ! ! a == 1 ; }"},
		{assert(con(api.CNot, con(api.COr, a, b))), head + "assert ! [ a == 1 || true ] ; }"}, {assert(con(api.CNot, con(api.CAnd, a, b))), head + "assert ! [ a == 1 && true ] ; }"}, {assert(con(api.CAnd, con(api.CNot, a), con(api.CNot, b))), head + "assert ! a == 1 && ! true ; }"},
		{assert(api.Cond{Kind: api.CNe, E: []api.Expr{num(1), num(2)}}), head + "assert 1 != 2 ; }"}, {assert(api.Cond{Kind: api.CLt, E: []api.Expr{num(1), num(2)}}), head + "assert 1 < 2 ; }"}, {assert(api.Cond{Kind: api.CLe, E: []api.Expr{num(1), num(2)}}), head + "assert 1 <= 2 ; }"},
		{pre(sep(sep(acc(1), pure(b)), api.Assn{})), "proc p ( ; ) requires acc ( x . f , 1 ) & [ true ] & emp ensures emp { }"}, {pre(sep(acc(0), sep(pure(con(api.COr, b, c)), api.Assn{}))), "proc p ( ; ) requires acc ( x . f , 0 ) & ( [ true || false ] & emp ) ensures emp { }"},
		{pre(api.Assn{Kind: api.APts, E: add(v("x"), num(1)), Field: "g", N: 1 << 30, V: num(-1)}), "proc p ( ; ) requires pts ( x + 1 . g , 1073741824 , - 1 ) ensures emp { }"},
		{pre(api.Assn{Kind: api.AIf, C: con(api.COr, b, c), Kids: []api.Assn{sep(acc(1), acc(2)), {}}}), "proc p ( ; ) requires if true || false { acc ( x . f , 1 ) & acc ( x . f , 2 ) } else { emp } ensures emp { }"},
		{api.Program{Procs: []api.Proc{{Name: "q", Post: pure(c)}}}, "proc q ( ; ) requires emp ensures [ false ] { }"},
		{prog(skip, skip), head + "skip ; skip ; }"}, {prog(api.Stmt{Kind: api.SGet, Name: "x", E: v("y"), Field: "f"}), head + "x := get y . f ; }"}, {prog(api.Stmt{Kind: api.SPut, E: v("y"), Field: "f", V: num(1)}), head + "put y . f := 1 ; }"},
		{prog(api.Stmt{Kind: api.SNew, Name: "x", Fields: []string{"f", "g"}}), head + "x := new ( f , g ) ; }"}, {prog(api.Stmt{Kind: api.SFree, E: v("y"), Field: "f"}), head + "free y . f ; }"},
		{prog(api.Stmt{Kind: api.SIf, C: b, Body: []api.Stmt{skip}}), head + "if true { skip ; } else { } }"}, {prog(api.Stmt{Kind: api.SIf, C: b, Else: []api.Stmt{skip, skip}}), head + "if true { } else { skip ; skip ; } }"},
		{prog(api.Stmt{Kind: api.SWhile, C: b, A: acc(3), Body: []api.Stmt{skip}}), head + "while true invariant acc ( x . f , 3 ) { skip ; } }"},
		{prog(api.Stmt{Kind: api.SCall, Callee: "q"}), head + "call q ( ; ) ; }"}, {prog(api.Stmt{Kind: api.SCall, Name: "r", Callee: "q", Args: []api.Expr{num(1), v("x")}, Ghosts: []api.Expr{num(2)}}), head + "r := call q ( 1 , x ; 2 ) ; }"},
	} {
		s, err := show.Show(x.p)
		if s != x.want || err != nil || show.Check(x.p) != nil {
			t.Errorf("%d: %q %v", i, s, err)
		}
	}
}

func deepExpr(n int) api.Expr {
	e := num(1)
	for ; n > 1; n-- {
		e = mul(1, e)
	}
	return e
}

func deepCond(n int) api.Cond {
	c := con(api.CTrue)
	for ; n > 1; n-- {
		c = con(api.CNot, c)
	}
	return c
}

func deepAssn(n int) api.Assn { // n is at least 2
	a := api.Assn{}
	for ; n > 2; n-- {
		a = sep(a, api.Assn{})
	}
	return a
}

func deepStmt(n int) api.Stmt { // n is at least 3
	s := api.Stmt{}
	for ; n > 3; n-- {
		s = api.Stmt{Kind: api.SIf, C: con(api.CTrue), Else: []api.Stmt{s}}
	}
	return s
}

func TestDepth(t *testing.T) { // P15.1
	with := func(s api.Stmt) api.Program { return prog(api.Stmt{}, s) }
	for i, make := range []func(n int) api.Program{
		func(n int) api.Program { return pre(deepAssn(n)) },
		func(n int) api.Program {
			return api.Program{Procs: []api.Proc{{Name: "p"}, {Name: "p", Post: deepAssn(n)}}}
		},
		func(n int) api.Program { return pre(pure(deepCond(n - 1))) },
		func(n int) api.Program { return pre(api.Assn{Kind: api.AAcc, E: deepExpr(n - 1), Field: "f", N: 1}) },
		func(n int) api.Program { return pre(api.Assn{Kind: api.APts, V: deepExpr(n - 1), Field: "f", N: 1}) },
		func(n int) api.Program { return pre(pure(eq(num(1), deepExpr(n-2)))) },
		func(n int) api.Program {
			return pre(api.Assn{Kind: api.AIf, C: deepCond(n - 1), Kids: []api.Assn{{}, {}}})
		},
		func(n int) api.Program { return with(deepStmt(n)) },
		func(n int) api.Program { return set(deepExpr(n - 1)) },
		func(n int) api.Program { return assert(deepCond(n - 1)) },
		func(n int) api.Program { return with(api.Stmt{Kind: api.SPut, Field: "f", V: deepExpr(n - 1)}) },
		func(n int) api.Program { return with(api.Stmt{Kind: api.SWhile, A: deepAssn(n - 1)}) },
		func(n int) api.Program {
			return with(api.Stmt{Kind: api.SCall, Callee: "p", Args: []api.Expr{num(1), deepExpr(n - 1)}})
		},
		func(n int) api.Program {
			return with(api.Stmt{Kind: api.SCall, Callee: "p", Ghosts: []api.Expr{deepExpr(n - 1)}})
		},
		func(n int) api.Program { return with(api.Stmt{Kind: api.SIf, Body: []api.Stmt{deepStmt(n - 1)}}) },
	} {
		if s, err := show.Show(make(100)); err != nil || s == "" {
			t.Error(i, err)
		}
		for _, n := range []int{101, 102, 3000} {
			if s, err := show.Show(make(n)); err != error(api.ErrDepth) || s != "" {
				t.Error(i, n, err)
			}
		}
	}
	// Whether they belong there or not; and ahead of all that is amiss otherwise.
	for i, p := range []api.Program{
		prog(api.Stmt{E: deepExpr(100)}), prog(api.Stmt{C: deepCond(100)}), prog(api.Stmt{A: deepAssn(100)}), prog(api.Stmt{Body: []api.Stmt{deepStmt(100)}}), prog(api.Stmt{Args: []api.Expr{deepExpr(100)}}), pre(api.Assn{V: deepExpr(100)}), pre(api.Assn{Kind: 77, C: deepCond(100)}),
		{Procs: []api.Proc{{Name: "1"}, {Name: "p", Body: []api.Stmt{deepStmt(101)}}}},
	} {
		if err := show.Check(p); err != error(api.ErrDepth) {
			t.Error(i, err)
		}
	}
}

func bad() []api.Program {
	const c = api.MaxCoef
	x, skip := v("x"), api.Stmt{}
	name := func(s string) api.Program { return api.Program{Procs: []api.Proc{{Name: s}}} }
	var l []api.Program
	for _, s := range []string{"", "1", "proc", "a b", "é", strings.Repeat("a", 33), "x."} {
		l = append(l, name(s), api.Program{Procs: []api.Proc{{Name: "p", Params: []string{"x", s}}}}, api.Program{Procs: []api.Proc{{Name: "p", Ghosts: []string{s}}}}, set(v(s)),
			prog(api.Stmt{Kind: api.SSet, Name: s}), prog(api.Stmt{Kind: api.SGet, Name: s, Field: "f"}), prog(api.Stmt{Kind: api.SGet, Name: "x", Field: s}), prog(api.Stmt{Kind: api.SPut, Field: s}), prog(api.Stmt{Kind: api.SFree, Field: s}),
			prog(api.Stmt{Kind: api.SNew, Name: s, Fields: []string{"f"}}), prog(api.Stmt{Kind: api.SNew, Name: "x", Fields: []string{"f", s}}), prog(api.Stmt{Kind: api.SCall, Callee: s}),
			pre(api.Assn{Kind: api.AAcc, E: x, Field: s, N: 1}), pre(api.Assn{Kind: api.APts, E: x, Field: s, N: 1}))
		if s != "" {
			l = append(l, prog(api.Stmt{Kind: api.SCall, Name: s, Callee: "p"}))
		}
	}
	for _, e := range []api.Expr{
		{Kind: 5}, {Kind: -1}, num(c + 1), num(-c - 1), num(math.MinInt), {Kind: api.EMul, N: c + 1, Kids: []api.Expr{x}}, {Kind: api.EMul, N: -c - 1, Kids: []api.Expr{x}},
		{Name: "x"}, {Kids: []api.Expr{x}}, {Kind: api.EVar, Name: "x", N: 1}, {Kind: api.EVar, Name: "x", Kids: []api.Expr{x}},
		{Kind: api.EAdd}, {Kind: api.EAdd, Kids: []api.Expr{x}}, {Kind: api.ESub, Kids: []api.Expr{x, x, x}}, {Kind: api.EAdd, N: 1, Kids: []api.Expr{x, x}}, {Kind: api.ESub, Name: "x", Kids: []api.Expr{x, x}},
		{Kind: api.EMul}, {Kind: api.EMul, Kids: []api.Expr{x, x}}, {Kind: api.EMul, Name: "x", Kids: []api.Expr{x}}, {Kind: api.ESub, N: 1, Kids: []api.Expr{x, x}},
	} {
		l = append(l, set(e), set(add(x, e)), set(mul(1, e)), assert(eq(e, x)), prog(api.Stmt{Kind: api.SGet, Name: "x", Field: "f", E: e}), prog(api.Stmt{Kind: api.SPut, Field: "f", E: e}), prog(api.Stmt{Kind: api.SPut, Field: "f", V: e}), prog(api.Stmt{Kind: api.SFree, Field: "f", E: e}),
			prog(api.Stmt{Kind: api.SCall, Callee: "p", Args: []api.Expr{e}}), prog(api.Stmt{Kind: api.SCall, Callee: "p", Ghosts: []api.Expr{x, e}}), pre(api.Assn{Kind: api.AAcc, E: e, Field: "f", N: 1}), pre(api.Assn{Kind: api.APts, E: x, V: e, Field: "f", N: 1}))
	}
	for _, k := range []api.Cond{
		{Kind: 9}, {Kind: -1}, {E: []api.Expr{x}}, {Kids: make([]api.Cond, 1)}, {Kind: api.CFalse, Kids: make([]api.Cond, 1)}, {Kind: api.CEq}, {Kind: api.CNe, E: []api.Expr{x}}, {Kind: api.CLt, E: []api.Expr{x, x, x}}, {Kind: api.CLe, E: []api.Expr{x, x}, Kids: make([]api.Cond, 1)},
		{Kind: api.CNot}, {Kind: api.CNot, Kids: make([]api.Cond, 2)}, {Kind: api.CNot, Kids: make([]api.Cond, 1), E: []api.Expr{x}}, {Kind: api.CAnd, Kids: make([]api.Cond, 1)}, {Kind: api.COr, Kids: make([]api.Cond, 3)}, {Kind: api.COr, Kids: make([]api.Cond, 2), E: []api.Expr{x, x}},
	} {
		l = append(l, assert(k), assert(con(api.CNot, k)), pre(pure(k)), prog(api.Stmt{Kind: api.SIf, C: k}), prog(api.Stmt{Kind: api.SWhile, C: k}), pre(api.Assn{Kind: api.AIf, C: k, Kids: make([]api.Assn, 2)}))
	}
	f, tr, full := con(api.CFalse), con(api.CTrue), acc(1)
	for _, a := range []api.Assn{
		{Kind: 6}, {Kind: -1}, {C: f}, {E: x}, {V: x}, {Field: "f"}, {N: 1}, {Kids: make([]api.Assn, 1)}, {Kind: api.APure, C: tr, E: x}, {Kind: api.APure, C: tr, N: 1}, {Kind: api.APure, C: tr, Kids: make([]api.Assn, 1)}, {Kind: api.APure, C: tr, Field: "f"},
		{Kind: api.AAcc, E: x, Field: "f", N: 1, V: x}, {Kind: api.AAcc, E: x, Field: "f", N: 1, C: f}, {Kind: api.AAcc, E: x, Field: "f", N: 1, Kids: make([]api.Assn, 1)}, acc(-1), acc(c + 1), acc(math.MinInt), {Kind: api.APts, E: x, Field: "f", N: -1}, {Kind: api.APts, E: x, Field: "f", N: 1, C: f},
		{Kind: api.ASep, Kids: make([]api.Assn, 1)}, {Kind: api.ASep, Kids: make([]api.Assn, 3)}, {Kind: api.ASep, Kids: make([]api.Assn, 2), C: f}, {Kind: api.ASep, Kids: make([]api.Assn, 2), N: 1}, {Kind: api.AIf, Kids: make([]api.Assn, 1)}, {Kind: api.AIf, Kids: make([]api.Assn, 2), E: x}, {Kind: api.AIf, Kids: make([]api.Assn, 2), V: num(1)},
	} {
		l = append(l, pre(a), pre(sep(full, a)), pre(api.Assn{Kind: api.AIf, Kids: []api.Assn{{}, a}}), prog(api.Stmt{Kind: api.SWhile, A: a}), api.Program{Procs: []api.Proc{{Name: "p"}, {Name: "p", Post: a}}})
	}
	one := []api.Stmt{skip}
	for _, s := range []api.Stmt{ // what doesn't belong there
		{Kind: 10}, {Kind: -1}, {Name: "x"}, {Field: "f"}, {Callee: "p"}, {E: x}, {V: x}, {C: f}, {A: full}, {Args: []api.Expr{x}}, {Ghosts: []api.Expr{x}}, {Fields: []string{"f"}}, {Body: one}, {Else: one},
		{Kind: api.SSet, Name: "x", Field: "f"}, {Kind: api.SSet, Name: "x", V: x}, {Kind: api.SGet, Name: "x", Field: "f", V: x}, {Kind: api.SPut, Name: "x", Field: "f"}, {Kind: api.SNew, Name: "x"}, {Kind: api.SNew, Name: "x", Fields: []string{"f"}, E: x}, {Kind: api.SFree, Field: "f", V: x}, {Kind: api.SFree, Field: "f", Name: "x"},
		{Kind: api.SIf, A: full}, {Kind: api.SIf, Name: "x"}, {Kind: api.SWhile, Else: one}, {Kind: api.SWhile, Name: "x"}, {Kind: api.SAssert, Body: one}, {Kind: api.SAssert, E: x}, {Kind: api.SCall, Callee: "p", E: x}, {Kind: api.SCall, Callee: "p", Field: "f"}, {Kind: api.SCall, Callee: "p", C: f}, {Kind: api.SCall, Callee: "p", Fields: []string{"f"}},
		{Kind: api.SSet, Name: "x", Callee: "p"}, {Kind: api.SSet, Name: "x", Args: []api.Expr{x}}, {Kind: api.SSet, Name: "x", Ghosts: []api.Expr{x}}, {Kind: api.SIf, Body: []api.Stmt{{Name: "x"}}}, {Kind: api.SIf, Else: []api.Stmt{skip, {E: x}}}, {Kind: api.SWhile, Body: []api.Stmt{{Kind: 10}}},
	} {
		l = append(l, prog(s), prog(skip, api.Stmt{Kind: api.SIf, Body: []api.Stmt{s}}), api.Program{Procs: []api.Proc{{Name: "p"}, {Name: "q", Body: []api.Stmt{s}}}})
	}
	return l
}

func TestWrong(t *testing.T) { // P15.1, P15.2, R3
	for i, p := range bad() {
		if err := show.Check(p); err != error(api.ErrForm) {
			t.Error(i, p, err)
		}
		if s, err := show.Show(p); err != error(api.ErrForm) || s != "" {
			t.Error(i, p, err)
		}
	}
}

func TestLong(t *testing.T) { // P15.2
	tail := len(head) + 1
	skips := func(n int) []api.Stmt { return make([]api.Stmt, n) }
	n := (api.MaxSource - tail) / len("skip ; ")
	p := prog(skips(n)...)
	s, err := show.Show(p)
	if err != nil || len(s) != tail+n*7 {
		t.Error(len(s), err)
	}
	room := api.MaxSource - len(s)
	p.Procs[0].Params = []string{strings.Repeat("a", room-1)}
	if s, err := show.Show(p); err != nil || len(s) != api.MaxSource {
		t.Error(len(s), err)
	}
	p.Procs[0].Params = []string{strings.Repeat("a", room)}
	if s, err := show.Show(p); err != error(api.ErrLong) || s != "" || show.Check(p) != nil {
		t.Error(len(s), err)
	}
	if s, err := show.Show(prog(skips(1 << 20)...)); err != error(api.ErrLong) || s != "" {
		t.Error(len(s), err)
	}
}

type maker struct{ r *rand.Rand }

func (m maker) name() string {
	return []string{"x", "y", "p", "res", "_a1", strings.Repeat("z", 32)}[m.r.Intn(6)]
}

func (m maker) expr(d int) api.Expr {
	k := m.r.Intn(5)
	if d == 0 {
		k %= 2
	}
	switch k {
	case 0:
		return num(m.r.Intn(7) - 3)
	case 1:
		return v(m.name())
	case 4:
		return mul(m.r.Intn(7)-3, m.expr(d-1))
	}
	return api.Expr{Kind: k, Kids: []api.Expr{m.expr(d - 1), m.expr(d - 1)}}
}

func (m maker) cond(d int) api.Cond {
	k := m.r.Intn(9)
	if d == 0 {
		k %= 6
	}
	switch {
	case k < 2:
		return con(k)
	case k < 6:
		return api.Cond{Kind: k, E: []api.Expr{m.expr(d), m.expr(d)}}
	case k == 6:
		return con(k, m.cond(d-1))
	}
	return con(k, m.cond(d-1), m.cond(d-1))
}

func (m maker) assn(d int) api.Assn {
	k := m.r.Intn(6)
	if d == 0 {
		k %= 4
	}
	switch k {
	case 1:
		return pure(m.cond(d))
	case 2:
		return api.Assn{Kind: k, E: m.expr(d), Field: m.name(), N: m.r.Intn(70)}
	case 3:
		return api.Assn{Kind: k, E: m.expr(d), Field: m.name(), N: m.r.Intn(70), V: m.expr(d)}
	case 4:
		return sep(m.assn(d-1), m.assn(d-1))
	case 5:
		return api.Assn{Kind: k, C: m.cond(d), Kids: []api.Assn{m.assn(d - 1), m.assn(d - 1)}}
	}
	return api.Assn{}
}

func (m maker) exprs() []api.Expr {
	var l []api.Expr
	for n := m.r.Intn(3); n > 0; n-- {
		l = append(l, m.expr(1))
	}
	return l
}

func (m maker) stmts(d int) []api.Stmt {
	var l []api.Stmt
	for n := m.r.Intn(4); n > 0 && d > 0; n-- {
		s := api.Stmt{Kind: m.r.Intn(10)}
		switch s.Kind {
		case api.SSet:
			s.Name, s.E = m.name(), m.expr(d)
		case api.SGet:
			s.Name, s.E, s.Field = m.name(), m.expr(d), m.name()
		case api.SPut:
			s.E, s.Field, s.V = m.expr(d), m.name(), m.expr(d)
		case api.SNew:
			s.Name, s.Fields = m.name(), []string{m.name(), m.name()}[m.r.Intn(2):]
		case api.SFree:
			s.E, s.Field = m.expr(d), m.name()
		case api.SIf:
			s.C, s.Body, s.Else = m.cond(d), m.stmts(d-1), m.stmts(d-1)
		case api.SWhile:
			s.C, s.A, s.Body = m.cond(d), m.assn(d), m.stmts(d-1)
		case api.SAssert:
			s.C = m.cond(d)
		case api.SCall:
			s.Callee, s.Args, s.Ghosts = m.name(), m.exprs(), m.exprs()
			if m.r.Intn(2) == 0 {
				s.Name = m.name()
			}
		}
		l = append(l, s)
	}
	return l
}

// tidy has nil for each list of no elements.
func tidy(p api.Program) api.Program {
	r := reflect.ValueOf(&p).Elem()
	bare(r)
	return p
}

func bare(r reflect.Value) {
	switch r.Kind() {
	case reflect.Struct:
		for i := 0; i < r.NumField(); i++ {
			bare(r.Field(i))
		}
	case reflect.Slice:
		if r.Len() == 0 {
			r.SetZero()
			return
		}
		n := reflect.MakeSlice(r.Type(), r.Len(), r.Len())
		reflect.Copy(n, r)
		r.Set(n)
		for i := 0; i < r.Len(); i++ {
			bare(r.Index(i))
		}
	}
}

func TestThereAndBack(t *testing.T) { // P15.2, P15.3, P15.4
	m := maker{rand.New(rand.NewSource(18))}
	for i := 0; i < 2000; i++ {
		p := api.Program{Procs: []api.Proc{{Name: "p", Params: []string{"a", "b"}[m.r.Intn(2):], Ghosts: []string{"u"}[m.r.Intn(2):], Pre: m.assn(3), Post: m.assn(3), Body: m.stmts(3)}, {Name: "q", Pre: m.assn(2)}}}
		before := tidy(p)
		s, err := show.Show(p)
		if err != nil {
			t.Fatal(p, err)
		}
		if !reflect.DeepEqual(tidy(p), before) {
			t.Fatal("changed")
		}
		got, err := parse.Parse(s)
		if err != nil || !reflect.DeepEqual(tidy(got), before) {
			t.Fatal(s, err)
		}
		tokens, _ := scan.Scan(s)
		var texts []string
		for _, k := range tokens {
			texts = append(texts, k.Text)
		}
		if again, err := show.Show(got); again != s || err != nil || strings.Join(texts, " ") != s {
			t.Fatal(s, again, err)
		}
	}
}
