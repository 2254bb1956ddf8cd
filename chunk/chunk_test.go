package chunk_test

import (
	"math"
	"math/rand"
	"reflect"
	"testing"

	"trammel/api"
	"trammel/chunk"
	"trammel/formula"
	"trammel/holds"
	"trammel/lin"
	"trammel/parse"
)

const far = api.MaxCoef

func num(n int) api.Expr             { return api.Expr{N: n} }
func v(s string) api.Expr            { return api.Expr{Kind: api.EVar, Name: s} }
func add(a, b api.Expr) api.Expr     { return api.Expr{Kind: api.EAdd, Kids: []api.Expr{a, b}} }
func sub(a, b api.Expr) api.Expr     { return api.Expr{Kind: api.ESub, Kids: []api.Expr{a, b}} }
func mul(n int, a api.Expr) api.Expr { return api.Expr{Kind: api.EMul, N: n, Kids: []api.Expr{a}} }

func form(c int, vk ...int) api.Lin {
	l := api.Lin{C: c}
	for i := 0; i+1 < len(vk); i += 2 {
		l.T = append(l.T, api.Mono{V: vk[i], K: vk[i+1]})
	}
	return l
}

func le(l api.Lin) api.Form   { return api.Form{Kind: api.FLe, L: l} }
func eq(l api.Lin) api.Form   { return api.Form{Kind: api.FEq, L: l} }
func not(f api.Form) api.Form { return node(api.FNot, f) }
func node(kind int, kids ...api.Form) api.Form {
	return api.Form{Kind: kind, Kids: kids}
}

func same(a, b api.Form) bool {
	if a.Kind != b.Kind || !lin.Same(a.L, b.L) || len(a.Kids) != len(b.Kids) {
		return false
	}
	for i := range a.Kids {
		if !same(a.Kids[i], b.Kids[i]) {
			return false
		}
	}
	return true
}

func wide(from, n int) api.Lin {
	l := api.Lin{}
	for i := 0; i < n; i++ {
		l.T = append(l.T, api.Mono{V: from + i, K: 1})
	}
	return l
}

func deep(n int) api.Expr {
	e := num(1)
	for ; n > 1; n-- {
		e = mul(1, e)
	}
	return e
}

var vars = []api.Sym{{Name: "x", L: form(3, 0, 1)}, {Name: "y", L: form(0, 1, -2)}, {Name: "x", L: form(77)}, {Name: "top", L: form(far)}, {Name: "low", L: form(-far)}, {Name: "much", L: form(0, 2, far)}, {Name: "wide", L: wide(0, 64)}, {Name: "other", L: wide(64, 64)}}

func cond(t *testing.T, src string) api.Cond {
	t.Helper()
	p, err := parse.Parse("proc p(;) requires emp ensures emp {assert " + src + ";}")
	if err != nil {
		t.Fatal(src, err)
	}
	return p.Procs[0].Body[0].C
}

func TestExpr(t *testing.T) { // P20.1, R1, R3
	bad := []api.Sym{{Name: "x", L: form(1)}, {Name: "unused", L: form(0, 0, 0)}}
	for i, x := range []struct {
		e    api.Expr
		l    []api.Sym
		want api.Lin
		err  error
	}{
		{sub(mul(2, v("x")), num(1)), vars, form(5, 0, 2), nil}, {v("x"), vars, form(3, 0, 1), nil}, {v("none"), vars, form(0), nil}, {v("x"), nil, form(0), nil}, {num(-9), vars, form(-9), nil}, {num(far), nil, form(far), nil},
		{add(v("x"), v("y")), vars, form(3, 0, 1, 1, -2), nil}, {sub(v("x"), v("x")), vars, form(0), nil}, {mul(-5000, v("y")), vars, form(0, 1, 10000), nil}, {mul(0, v("wide")), vars, form(0), nil}, {mul(far, num(1)), vars, form(far), nil}, {mul(1<<29, v("y")), vars, form(0, 1, -far), nil},
		{add(v("top"), num(1)), vars, form(0), api.ErrFar}, {sub(v("low"), num(1)), vars, form(0), api.ErrFar}, {mul(2, v("top")), vars, form(0), api.ErrFar}, {mul(-2, v("low")), vars, form(0), api.ErrFar}, {mul(far, v("y")), vars, form(0), api.ErrFar}, {mul(far, v("top")), vars, form(0), api.ErrFar}, {mul(-far, v("much")), vars, form(0), api.ErrFar},
		{add(v("wide"), v("other")), vars, form(0), api.ErrFar}, {sub(v("wide"), v("other")), vars, form(0), api.ErrFar}, {add(v("wide"), v("wide")), vars, lin2(wide(0, 64)), nil}, {add(v("much"), v("much")), vars, form(0), api.ErrFar},
		{sub(add(v("top"), num(1)), num(1)), vars, form(0), api.ErrFar}, {mul(0, add(v("top"), num(1))), vars, form(0), api.ErrFar}, {sub(num(0), add(num(1), v("top"))), vars, form(0), api.ErrFar}, // a Kid's counts
		{num(far + 1), vars, form(0), api.ErrForm}, {v("1"), vars, form(0), api.ErrForm}, {api.Expr{Kind: 9}, vars, form(0), api.ErrForm}, {deep(99), vars, form(1), nil}, {deep(100), vars, form(0), api.ErrForm}, {v("x"), bad, form(0), api.ErrForm}, {add(v("top"), num(far)), bad, form(0), api.ErrForm},
	} {
		if f, err := chunk.Expr(x.e, x.l); err != x.err || !lin.Same(f, x.want) {
			t.Error(i, f, err)
		}
	}
}

func lin2(l api.Lin) api.Lin {
	for i := range l.T {
		l.T[i].K *= 2
	}
	return l
}

func TestCond(t *testing.T) { // P20.1, R1, R3
	d := form(3, 0, 1, 1, 2) // x less y
	for src, want := range map[string]api.Form{
		"true": {}, "false": node(api.FFalse), "x==y": eq(d), "x!=y": not(eq(d)), "x<=y": le(d), "x<y": le(form(4, 0, 1, 1, 2)), "!x<=y": not(le(d)), "x==y&&true": node(api.FAnd, eq(d), api.Form{}), "false||x<=y": node(api.FOr, node(api.FFalse), le(d)),
		"x==x": eq(form(0)), "1<2": le(form(0)), "low<=none": le(form(-far)), "none<=low": le(form(far)), "![x<y&&[true||x!=y]]": not(node(api.FAnd, le(form(4, 0, 1, 1, 2)), node(api.FOr, api.Form{}, not(eq(d))))), "top-1<none": le(form(far)),
	} {
		if f, err := chunk.Cond(cond(t, src), vars); err != nil || !same(f, want) {
			t.Error(src, f, err)
		}
	}
	for _, src := range []string{"top<none", "top==-1", "top!=-1", "top<=-1", "low==1", "top+1==0", "0==top+1", "wide==other", "true||top<none", "false&&top+1==0", "!2*top<=1", "much<=-1*much"} { // wherever it stands
		if f, err := chunk.Cond(cond(t, src), vars); err != error(api.ErrFar) || !same(f, api.Form{}) {
			t.Error(src, f, err)
		}
	}
	for i, c := range []api.Cond{{Kind: 9}, {Kind: api.CNot}, {Kind: api.CEq, E: []api.Expr{num(1), deep(99)}}, {Kind: api.COr, Kids: []api.Cond{cond(t, "top<none"), {Kind: api.CEq}}}} {
		if f, err := chunk.Cond(c, vars); err != error(api.ErrForm) || !same(f, api.Form{}) {
			t.Error(i, f, err)
		}
	}
	if _, err := chunk.Cond(cond(t, "top<none"), []api.Sym{{Name: "z", L: form(far + 1)}}); err != error(api.ErrForm) {
		t.Error(err)
	}
}

func TestSame(t *testing.T) { // P20.1
	for i, x := range []struct {
		a, b api.Lin
		want api.Form
		err  error
	}{
		{form(1, 0, 1), form(4, 1, 2), eq(form(-3, 0, 1, 1, -2)), nil}, {form(1, 0, 1), form(1, 0, 1), eq(form(0)), nil}, {form(far), form(0), eq(form(far)), nil},
		{form(far), form(-1), api.Form{}, api.ErrFar}, {form(0, 0, far), form(0, 0, -1), api.Form{}, api.ErrFar}, {wide(0, 64), form(0, 64, 1), api.Form{}, api.ErrFar},
		{form(far + 1), form(0), api.Form{}, api.ErrForm}, {form(0), form(0, 0, 0), api.Form{}, api.ErrForm},
	} {
		if f, err := chunk.Same(x.a, x.b); err != x.err || !same(f, x.want) {
			t.Error(i, f, err)
		}
	}
}

func c(n int, addr api.Lin, field string, val api.Lin) api.Chunk {
	return api.Chunk{Addr: addr, Field: field, N: n, Val: val}
}

func TestFacts(t *testing.T) { // P20.2, R1, R3
	u, w := form(0, 0, 1), form(0, 1, 1)
	below := le(form(1, 1, -1))
	apart := not(eq(form(0, 0, 1, 1, -1)))
	or := node(api.FOr, apart, eq(form(7, 5, 1)))
	val, val2 := form(7, 5, 1), form(0)
	for i, x := range []struct {
		l    []api.Chunk
		c    api.Chunk
		want []api.Form
		err  error
	}{
		{[]api.Chunk{c(64, u, "f", val)}, c(64, w, "f", val2), []api.Form{below, apart}, nil}, {nil, c(64, w, "f", val), []api.Form{below}, nil}, {[]api.Chunk{c(64, u, "g", val)}, c(64, w, "f", val2), []api.Form{below}, nil},
		{[]api.Chunk{c(1, u, "f", val)}, c(64, w, "f", val2), []api.Form{below, apart}, nil}, {[]api.Chunk{c(32, u, "f", val)}, c(32, w, "f", val2), []api.Form{below, or}, nil}, {[]api.Chunk{c(32, u, "f", val)}, c(33, w, "f", val2), []api.Form{below, apart}, nil},
		{[]api.Chunk{c(1, u, "f", val), c(9, u, "g", val), c(64, w, "f", val)}, c(63, w, "f", val2), []api.Form{below, or, not(eq(form(0)))}, nil},
		{[]api.Chunk{c(-1, u, "f", val)}, c(100, w, "f", val2), []api.Form{below, apart}, nil}, {[]api.Chunk{c(100, u, "f", val)}, c(-1, w, "f", val2), []api.Form{below, apart}, nil}, {[]api.Chunk{c(-36, u, "f", val)}, c(100, w, "f", val2), []api.Form{below, or}, nil},
		{[]api.Chunk{c(math.MaxInt, u, "f", val)}, c(math.MaxInt, w, "f", val2), []api.Form{below, apart}, nil}, {[]api.Chunk{c(math.MinInt, u, "f", val)}, c(math.MinInt, w, "f", val2), []api.Form{below, or}, nil}, {[]api.Chunk{c(math.MinInt, u, "f", val)}, c(-1, w, "f", val2), []api.Form{below, or}, nil}, {[]api.Chunk{c(math.MaxInt, u, "f", val)}, c(math.MinInt, w, "f", val2), []api.Form{below, or}, nil}, {[]api.Chunk{c(1, u, "f", val)}, c(math.MaxInt, w, "f", val2), []api.Form{below, apart}, nil},
		{nil, c(1, form(-far), "f", val), nil, api.ErrFar}, {nil, c(1, form(1-far), "f", val), []api.Form{le(form(far))}, nil}, {[]api.Chunk{c(1, form(far), "f", val)}, c(1, form(-1), "f", val), nil, api.ErrFar}, {[]api.Chunk{c(1, u, "f", form(far))}, c(1, w, "f", form(-1)), nil, api.ErrFar}, {[]api.Chunk{c(64, u, "f", form(far))}, c(1, w, "f", form(-1)), []api.Form{below, apart}, nil}, {[]api.Chunk{c(1, u, "g", form(far))}, c(1, w, "f", form(-1)), []api.Form{below}, nil},
		{nil, c(1, form(far+1), "f", val), nil, api.ErrForm}, {nil, c(1, form(-far), "f", form(0, 0, 0)), nil, api.ErrForm}, {[]api.Chunk{c(1, form(far), "f", val), c(1, form(0, 0, 0), "g", val)}, c(1, form(-1), "f", val), nil, api.ErrForm}, {[]api.Chunk{c(1, u, "g", form(far+1))}, c(1, w, "f", val), nil, api.ErrForm},
	} {
		f, err := chunk.Facts(x.l, x.c)
		ok := err == x.err && len(f) == len(x.want)
		for k := 0; ok && k < len(f); k++ {
			ok = same(f[k], x.want[k])
		}
		if !ok {
			t.Error(i, f, err)
		}
	}
}

func TestTake(t *testing.T) { // P20.3, R1, R3
	made := func() []api.Chunk {
		return []api.Chunk{c(3, form(0, 0, 1), "f", form(1)), c(64, form(0, 1, 1), "g", form(0, 2, 1)), c(1, form(2), "f", form(3))}
	}
	l := made()
	for i, x := range []struct {
		i, n int
		want []int
		err  error
	}{
		{0, 1, []int{2, 64, 1}, nil}, {0, 3, []int{64, 1}, nil}, {1, 63, []int{3, 1, 1}, nil}, {1, 64, []int{3, 1}, nil}, {2, 1, []int{3, 64}, nil},
		{3, 1, nil, api.ErrNone}, {-1, 1, nil, api.ErrNone}, {3, 0, nil, api.ErrNone}, {math.MinInt, 1, nil, api.ErrNone}, {0, 4, nil, api.ErrArg}, {0, 0, nil, api.ErrArg}, {0, -1, nil, api.ErrArg}, {2, 2, nil, api.ErrArg}, {1, math.MaxInt, nil, api.ErrArg},
	} {
		rest, err := chunk.Take(l, x.i, x.n)
		if err != x.err || len(rest) != len(x.want) {
			t.Error(i, rest, err)
			continue
		}
		from := made()
		if len(rest) == 2 {
			from = append(from[:x.i], from[x.i+1:]...)
		}
		for k := range rest {
			from[k].N = x.want[k]
			if !reflect.DeepEqual(rest[k], from[k]) {
				t.Error(i, rest)
			}
		}
	}
	if _, err := chunk.Take([]api.Chunk{{N: -5}}, 0, 1); err != error(api.ErrArg) {
		t.Error(err)
	}
	if !reflect.DeepEqual(l, made()) {
		t.Error("changed")
	}
}

func TestMeaning(t *testing.T) { // P20.5
	r := rand.New(rand.NewSource(21))
	var expr func(d int) api.Expr
	expr = func(d int) api.Expr {
		switch k := r.Intn(5); {
		case k == 0 || d == 0:
			return num(r.Intn(9) - 4)
		case k == 1:
			return v([]string{"x", "y", "z", "w"}[r.Intn(4)])
		case k == 4:
			return mul(r.Intn(9)-4, expr(d-1))
		default:
			return api.Expr{Kind: k, Kids: []api.Expr{expr(d - 1), expr(d - 1)}}
		}
	}
	var cond func(d int) api.Cond
	cond = func(d int) api.Cond {
		switch k := r.Intn(9); {
		case k < 2:
			return api.Cond{Kind: k}
		case k < 6 || d == 0:
			return api.Cond{Kind: api.CEq + k%4, E: []api.Expr{expr(2), expr(2)}}
		case k == 6:
			return api.Cond{Kind: k, Kids: []api.Cond{cond(d - 1)}}
		default:
			return api.Cond{Kind: k, Kids: []api.Cond{cond(d - 1), cond(d - 1)}}
		}
	}
	for i := 0; i < 3000; i++ {
		unknowns := []int{r.Intn(9) - 4, r.Intn(9) - 4, r.Intn(9) - 4}
		l := []api.Sym{{Name: "x", L: form(r.Intn(5)-2, 0, 1)}, {Name: "y", L: form(1, 1, -2, 2, 1)}, {Name: "z", L: form(r.Intn(9) - 4)}}
		var vals []api.Var
		for _, s := range l {
			n, _ := lin.Value(s.L, unknowns)
			vals = append(vals, api.Var{Name: s.Name, Val: n})
		}
		e, k := expr(4), cond(3)
		f, err := chunk.Expr(e, l)
		n, _ := lin.Value(f, unknowns)
		want, _ := holds.Expr(e, vals)
		if err != nil || n != want {
			t.Fatal(e, f, n, want, err)
		}
		g, err := chunk.Cond(k, l)
		is, _ := formula.Value(g, unknowns)
		wantIs, _ := holds.Cond(k, vals)
		if err != nil || is != wantIs {
			t.Fatal(k, g, is, wantIs, err)
		}
	}
}

func TestMemory(t *testing.T) { // P20.4, R2
	made := func() ([]api.Sym, []api.Chunk) {
		return []api.Sym{{Name: "x", L: form(3, 0, 1)}}, append(make([]api.Chunk, 0, 9), c(3, form(0, 0, 1), "f", form(1, 3, 1)), c(3, form(0, 1, 1), "f", form(1, 4, 1)))
	}
	l, h := made()
	f, _ := chunk.Expr(v("x"), l)
	f.T[0].K = 99
	g, _ := chunk.Cond(cond(t, "x==0&&x<1"), l)
	g.Kids[0].L.T[0].K = 99
	o := c(3, form(0, 2, 1), "f", form(1, 5, 1))
	facts, _ := chunk.Facts(h, o)
	facts[0].L.T[0].K = 99
	facts[1].Kids[1].L.T[0].K = 99
	rest, _ := chunk.Take(h, 0, 1)
	rest[0].Addr.T[0].K, rest[1].Val.T[0].K, rest[1].N = 99, 99, 99
	s, _ := chunk.Same(h[0].Addr, form(0))
	s.L.T[0].K = 99
	wantL, wantH := made()
	if !reflect.DeepEqual(l, wantL) || !reflect.DeepEqual(h, wantH) || h[:3][2].N != 0 || !lin.Same(o.Addr, form(0, 2, 1)) || !lin.Same(o.Val, form(1, 5, 1)) {
		t.Error("changed, or shared", l, h)
	}
}
