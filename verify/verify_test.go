package verify_test

import (
	"math"
	"math/rand"
	"reflect"
	"strconv"
	"strings"
	"testing"

	"trammel/api"
	"trammel/exec"
	"trammel/formula"
	"trammel/heap"
	"trammel/holds"
	"trammel/kernel"
	"trammel/names"
	"trammel/parse"
	"trammel/run"
	"trammel/verify"
)

// check holds a verdict against P23.1, and answers its Kind.
func check(t *testing.T, src string, fuel int) int {
	t.Helper()
	v := verify.Verify(src, fuel)
	p, err := parse.Parse(src)
	if (v.Kind == api.Malformed) != (err != nil || names.Check(p) != nil) {
		t.Fatal(src, v)
	}
	switch v.Kind {
	case api.Verified:
		if err := kernel.Bytes(p, v.Witness); err != nil || v.Proc != "" || len(v.Values) != 0 || !reflect.DeepEqual(v.Query, api.Query{}) {
			t.Fatal(src, v, err)
		}
	case api.Failed:
		if _, err := names.Find(p, v.Proc); err != nil || len(v.Witness) != 0 {
			t.Fatal(src, v, err)
		}
		if is, err := formula.Value(exec.Formula(v.Query), v.Values); !is || err != nil {
			t.Fatal(src, v, err)
		}
	case api.Malformed, api.Unknown:
		if !reflect.DeepEqual(v, api.Verdict{Kind: v.Kind}) {
			t.Fatal(src, v)
		}
	default:
		t.Fatal(src, v)
	}
	return v.Kind
}

const step = "proc p(a; u) requires pts(a.f, 64, u) ensures pts(a.f, 64, u + 1) { x := get a.f; put a.f := x + 1; }"
const count = "proc p(n; ) requires [0 <= n] ensures [res == n] { while res < n invariant [res <= n] { res := res + 1; } }"

var examples = []struct {
	src  string
	kind int
}{
	{"", api.Verified}, {step, api.Verified}, {strings.Replace(step, "u + 1", "u + 2", 1), api.Failed}, {strings.Replace(step, "64", "63", 2), api.Failed}, {strings.Replace(step, "64", "63", 1), api.Failed},
	{"proc p(; ) requires emp ensures emp { x := new(f); }", api.Failed}, {"proc p(; ) requires emp ensures emp { x := new(f); free x.f; }", api.Verified},
	{count, api.Verified}, {strings.Replace(count, "[0 <= n]", "emp", 1), api.Failed},
	{"proc p(a, b; u, v) requires pts(a.f, 64, u) & pts(b.f, 64, v) ensures [a != b] & pts(a.f, 64, u) & pts(b.f, 64, v) { }", api.Verified},
	{strings.Replace(step, "u + 1", "u", 1), api.Failed},
	{"proc p(x; ) requires acc(x.f, 64) ensures pts(x.f, 64, 1) { put x.f := 1; }", api.Verified}, {"proc p(x; ) requires emp ensures emp { put x.f := 1; }", api.Failed}, {"proc p", api.Malformed},
}

func TestExamples(t *testing.T) { // the chapter's and the whole's
	for _, x := range examples {
		for _, fuel := range []int{200, 1000, math.MaxInt} {
			if k := check(t, x.src, fuel); k != x.kind {
				t.Error(x.src, fuel, k)
			}
		}
	}
}

func TestNoFuel(t *testing.T) { // P23.1, and example 10
	for _, x := range examples {
		for _, fuel := range []int{0, -1, math.MinInt} {
			want := api.Unknown
			if x.src == "" || x.kind == api.Malformed {
				want = x.kind
			}
			if k := check(t, x.src, fuel); k != want {
				t.Error(x.src, fuel, k)
			}
		}
		for fuel := 1; fuel < 10; fuel++ { // whatever the fuel, what is said is so
			if k := check(t, x.src, fuel); k != x.kind && k != api.Unknown {
				t.Error(x.src, fuel, k)
			}
		}
	}
	if k := check(t, "proc p(;) requires emp ensures emp {x:=1;}", 0); k != api.Verified { // nothing is asked
		t.Error(k)
	}
}

func TestMuchFuel(t *testing.T) { // P23.1: above 1000 it counts as 1000
	for _, x := range examples {
		if !reflect.DeepEqual(verify.Verify(x.src, 1000), verify.Verify(x.src, math.MaxInt)) || !reflect.DeepEqual(verify.Verify(x.src, 1000), verify.Verify(x.src, 1001)) {
			t.Error(x.src)
		}
	}
}

func TestMalformed(t *testing.T) { // P23.1
	for _, src := range []string{"x", "proc p(", "01", "#", strings.Repeat(" ", 65537), "proc p(x,x;) requires emp ensures emp {}", "proc p(x;) requires [y==1] ensures emp {}", "proc p(x;) requires acc(x.f,65) ensures emp {}", "proc p(;) requires emp ensures emp {call q(;);}", strings.Replace(step, "get a.f", "u", 1),
		"proc p(;) requires emp ensures emp {x:=" + strings.Repeat("1+", 200) + "1;}", step + step, "\xff\x00"} {
		if k := check(t, src, 200); k != api.Malformed {
			t.Error(src, k)
		}
	}
}

func TestFirstThatFails(t *testing.T) { // P23.1
	good := " proc %(;) requires emp ensures emp {}"
	bad := " proc %(x;) requires emp ensures [x==3] {}"
	far := " proc %(;) requires emp ensures emp {x:=1073741824+1;}"
	later := " proc %(x;) requires emp ensures [x!=x]&[false] {y:=1073741824+1;}"
	as := func(l ...string) string {
		s := ""
		for i, x := range l {
			s += strings.Replace(x, "%", "p"+strconv.Itoa(i), 1)
		}
		return s
	}
	for i, x := range []struct {
		src  string
		kind int
		proc string
	}{
		{as(good, good), api.Verified, ""}, {as(good, bad), api.Failed, "p1"}, {as(bad, good, bad), api.Failed, "p0"}, {as(far, bad), api.Unknown, ""}, {as(good, bad, far), api.Failed, "p1"}, {as(far), api.Unknown, ""}, {as(good, later, bad), api.Unknown, ""},
		{"proc p(x;) requires acc(x.f,1) ensures acc(x.f,1) {y:=get x.f;assert y!=5;}", api.Failed, "p"},
	} {
		check(t, x.src, 1000)
		if v := verify.Verify(x.src, 1000); v.Kind != x.kind || v.Proc != x.proc {
			t.Error(i, v)
		}
	}
	v := verify.Verify(as(good, " proc %(x;) requires [1<=x] ensures [x!=3] {assert 0<x;}"), 1000)
	if len(v.Query.Known) != 1 || v.Query.Goal.Kind != api.FNot || len(v.Values) < 1 || v.Values[0] != 3 {
		t.Error(v)
	}
	long := "proc p(;) requires emp ensures emp {" + strings.Repeat("assert 1==1;", 251) + "}"
	if k := check(t, long, 1000); k != api.Unknown {
		t.Error(k)
	}
}

func TestFamilies(t *testing.T) { // T4: the examples, whatever their numbers
	for _, n := range []int{0, 1, 2, 7, 63, 1000, 65536, 1 << 24} {
		k := strconv.Itoa(n)
		for _, src := range []string{
			"proc p(a; u) requires pts(a.f, 64, u) ensures pts(a.f, 64, u + " + k + ") { x := get a.f; put a.f := x + " + k + "; }",
			"proc p(x; ) requires acc(x.f, 64) ensures pts(x.f, 64, " + k + ") { put x.f := " + k + "; }",
			"proc p(n; ) requires [-" + k + " <= n] ensures [res == n] { res := -" + k + "; while res < n invariant [res <= n] { res := res + 1; } }",
			"proc p(a; u) requires pts(a.f, 64, u) ensures pts(a.f, 64, u - 2 * " + k + ") { x := get a.f; put a.f := x - " + k + "; x := get a.f; put a.f := x - " + k + "; }",
			"proc p(; ) requires emp ensures [res == " + k + "] { x := new(f); put x.f := " + k + "; res := get x.f; free x.f; }",
		} {
			if got := check(t, src, 200); got != api.Verified {
				t.Error(src, got)
			}
		}
	}
	for n := 1; n < 64; n += 6 {
		k, rest := strconv.Itoa(n), strconv.Itoa(64-n)
		for src, want := range map[string]int{
			"proc p(a, b; u, v) requires pts(a.f, " + k + ", u) & pts(a.f, " + rest + ", v) ensures pts(a.f, 64, u + 1) { x := get a.f; put a.f := x + 1; }":                     api.Verified,
			"proc p(a, b; u, v) requires pts(a.f, " + k + ", u) & pts(b.f, 64, v) ensures [a != b] & pts(b.f, 64, v) & pts(a.f, " + k + ", u) { }":                               api.Verified,
			"proc p(a; u) requires pts(a.f, " + k + ", u) ensures pts(a.f, " + k + ", u) & [res == u] { res := get a.f; }":                                                       api.Verified,
			"proc p(a; u) requires pts(a.f, " + k + ", u) ensures pts(a.f, " + k + ", 3) { put a.f := 3; }":                                                                      api.Failed,
			"proc p(a, b; u, v) requires pts(a.f, " + k + ", u) & pts(b.f, " + rest + ", v) ensures [a != b] & pts(b.f, " + rest + ", v) & pts(a.f, " + k + ", u) { }":           api.Failed,
			"proc p(a, b; u, v) requires pts(a.f, " + k + ", u) & pts(b.f, " + rest + ", v) ensures pts(b.f, " + rest + ", v) & pts(a.f, " + k + ", u) & [a != b || u == v] { }": api.Verified,
		} {
			if got := check(t, src, 200); got != want {
				t.Error(src, got)
			}
		}
	}
}

// row writes n texts, in which # is the number of each, and @ that of the next one, the first one's behind the last.
func row(n int, between, s string) string {
	var l []string
	for i := range n {
		l = append(l, strings.NewReplacer("#", strconv.Itoa(i), "@", strconv.Itoa((i+1)%n)).Replace(s))
	}
	return strings.Join(l, between)
}

func TestFamiliesOfCells(t *testing.T) { // T4
	for n := 1; n < 5; n++ {
		head := "proc p(" + row(n, ",", "a#") + ";" + row(n, ",", "u#") + ") requires "
		for src, want := range map[string]int{
			head + row(n, "&", "pts(a#.f,64,u#)") + " ensures " + row(n, "&", "pts(a#.f,64,u@)") + "{" + row(n, "", "x#:=get a#.f;") + row(n, "", "put a#.f:=x@;") + "}":         api.Verified,
			head + row(n, "&", "pts(a#.f,64,u#)") + " ensures " + row(n, "&", "pts(a#.f,64,u@+1)") + "{" + row(n, "", "x#:=get a#.f;") + row(n, "", "put a#.f:=x@;") + "}":       api.Failed,
			head + row(n, "&", "pts(a0.f,16,u#)") + " ensures " + row(n, "&", "pts(a0.f,16,u@)") + "{}":                                                                          api.Verified,
			"proc p(;) requires emp ensures emp {" + row(n, "", "x#:=new(f,g);put x#.f:=#;") + row(n, "", "y:=get x#.f;assert y==#;") + row(n, "", "free x#.g;free x#.f;") + "}": api.Verified,
			"proc p(;) requires emp ensures emp {" + row(n, "", "x#:=new(f);") + row(n, "", "free x0.f;") + "free x0.f;}":                                                        api.Failed,
			"proc p(n;) requires [0<=n] ensures " + row(n, "&", "[y#==#*n]") + "{}":                                                                                              api.Malformed,
			"proc p(n;) requires [0<=n] ensures [res==n+n] {while i<n invariant [i<=n]&[res==2*i]{i:=i+1;" + row(n, "", "res:=res+#-#;") + "res:=res+2;}}":                       api.Verified,
			head + "emp ensures " + row(n, "&", "[a#<=res]") + "{res:=a0;" + row(n, "", "if res<a#{res:=a#;}else{}") + "}":                                                       api.Verified,
			head + "emp ensures " + row(n, "&", "[a#<res]") + "{res:=a0;" + row(n, "", "if res<a#{res:=a#;}else{}") + "}":                                                        api.Failed,
		} {
			if got := check(t, src, 200); got != want {
				t.Error(src, got)
			}
		}
	}
}

// maker makes programs of one procedure that mean something, some of which do what they say.
type maker struct{ r *rand.Rand }

func (m maker) of(l ...string) string { return l[m.r.Intn(len(l))] }

func (m maker) number() string { return m.of("x", "y", "z", "res", "0", "1", "2", "x+1", "z+1", "2*y") }

func (m maker) cond() string {
	return m.number() + m.of("==", "!=", "<", "<=") + m.number()
}

func (m maker) item(ghosts bool) string {
	v := m.of("x", "y", "0", "1", "x+1")
	if ghosts {
		v = m.of("u", "v", "u", "v", "u+1", "0", "1", "x", "7")
	}
	n := m.of("64", "64", "64", "32", "1", "63")
	return m.of("emp", "pts(x.f,"+n+","+v+")", "pts(y.f,"+n+","+v+")", "acc(x.f,"+n+")", "acc(y.g,"+n+")", "pts(x.g,"+n+","+v+")", "["+v+m.of("<", "<=", "!=")+m.of("x", "y", "2")+"]", "if x"+m.of("==", "<")+"y{pts(x.f,"+n+","+v+")}else{emp}")
}

func (m maker) assn(ghosts bool) string {
	s := m.item(ghosts)
	for m.r.Intn(2) == 0 {
		s += "&" + m.item(ghosts)
	}
	return s
}

func (m maker) stmts(d int) string {
	s := ""
	for n := m.r.Intn(4); n > 0; n-- {
		k := m.r.Intn(9)
		if d == 0 {
			k %= 6
		}
		switch k {
		case 0:
			s += m.of("z", "res") + ":=" + m.number() + ";"
		case 1:
			s += m.of("z", "res") + ":=get " + m.of("x.f", "y.f", "x.g", "y.g", "z.f") + ";"
		case 2:
			s += "put " + m.of("x.f", "y.f", "x.g", "z.f") + ":=" + m.number() + ";"
		case 3:
			s += m.of("z:=new(f);", "res:=new(g,f);", "free x.f;", "free z.f;", "skip;")
		case 4:
			s += "assert " + m.cond() + ";"
		case 5:
			s += m.of("", "z:=", "res:=") + "call q(" + m.of("x", "y", "z") + ";" + m.of("0", "1", "x") + ");"
		case 6, 7:
			s += "if " + m.cond() + "{" + m.stmts(d-1) + "}else{" + m.stmts(d-1) + "}"
		case 8:
			s += "while " + m.of("z<3", "z<x", "res!=2") + " invariant " + m.of("emp", m.assn(true)) + "{" + m.stmts(d-1) + m.of("z:=z+1;", "res:=res+1;") + "}"
		}
	}
	return s
}

func (m maker) program() string {
	pre := m.assn(true)
	post := m.of(pre, pre, m.assn(true)+m.of("", "&[res==z]", "&[res<=u]"))
	post = strings.ReplaceAll(post, "z", "x")
	q := " proc q(a;b) requires " + m.of("emp", "acc(a.f,64)", "pts(a.f,1,b)") + " ensures " + m.of("emp", "acc(a.f,64)", "pts(a.f,1,b)") + m.of("", "&[res==a]") + " {" + m.of("", "res:=a;", "z:=call q(a;0);") + "}"
	return "proc p(x,y;u,v) requires " + pre + " ensures " + post + " {" + m.stmts(2) + "}" + q
}

// cells puts the cells of which an assertion speaks into a heap.
func cells(a api.Assn, l []api.Var, h []api.Cell, r *rand.Rand) []api.Cell {
	if a.Kind == api.AAcc || a.Kind == api.APts {
		addr, _ := holds.Expr(a.E, l)
		val, _ := holds.Expr(a.V, l)
		if a.Kind == api.AAcc {
			val = r.Intn(4)
		}
		if _, err := heap.Get(h, addr, a.Field); err != nil || a.Kind == api.APts {
			h = heap.Set(h, addr, a.Field, val)
		}
	}
	for i, k := range a.Kids {
		if is, _ := holds.Cond(a.C, l); a.Kind == api.ASep || is == (i == 0) {
			h = cells(k, l, h, r)
		}
	}
	return h
}

func share(l []api.Share, c api.Cell) int {
	for _, s := range l {
		if s.Addr == c.Addr && s.Field == c.Field {
			return s.N
		}
	}
	return 0
}

// accounted tells what is amiss with how a run ended: T1.
func accounted(q api.Proc, l []api.Var, before []api.Cell, o api.Outcome) string {
	if o.Kind == api.RunFault {
		return "a fault"
	}
	if o.Kind != api.RunDone {
		return ""
	}
	end := append([]api.Var{{Name: "res", Val: o.Res}}, l...)
	if is, err := holds.Holds(q.Post, end, o.Heap); err == nil && !is {
		return "Post doesn't hold"
	}
	pre, _ := holds.Foot(q.Pre, l)
	post, err := holds.Foot(q.Post, end)
	if err != nil {
		return ""
	}
	for _, c := range before {
		left := api.Whole - share(pre, c)
		v, err := heap.Get(o.Heap, c.Addr, c.Field)
		if left > 0 && (err != nil || v != c.Val) {
			return "a cell of which others have a part was changed"
		}
	}
	for _, c := range o.Heap {
		left := 0
		if _, err := heap.Get(before, c.Addr, c.Field); err == nil {
			left = api.Whole - share(pre, c)
		}
		if left+share(post, c) != api.Whole {
			return "a cell isn't accounted for"
		}
	}
	return ""
}

func TestWhatVerifiedSays(t *testing.T) { // P23.3, T1
	r := rand.New(rand.NewSource(23))
	m := maker{r}
	verified, runs := 0, 0
	for i := 0; i < 5000; i++ {
		src := m.program()
		if check(t, src, 60) != api.Verified {
			continue
		}
		verified++
		p, _ := parse.Parse(src)
		for k := 0; k < 40; k++ {
			var l []api.Var
			for _, n := range []string{"x", "y", "u", "v"} {
				l = append(l, api.Var{Name: n, Val: r.Intn(5)})
			}
			before := cells(p.Procs[0].Pre, l, nil, r)
			if r.Intn(2) == 0 { // what others have
				before = heap.Set(before, 1+r.Intn(4), m.of("f", "g", "h"), r.Intn(3))
			}
			if is, err := holds.Holds(p.Procs[0].Pre, l, before); err != nil || !is {
				continue
			}
			runs++
			o, err := run.Run(p, "p", []int{l[0].Val, l[1].Val}, before, 300)
			if err != nil {
				t.Fatal(src, err)
			}
			if s := accounted(p.Procs[0], l, before, o); s != "" {
				t.Fatal(s, src, l, before, o)
			}
		}
	}
	if verified < 50 || runs < 500 {
		t.Error(verified, runs)
	}
}

func TestEnds(t *testing.T) { // P23.2, T3
	r := rand.New(rand.NewSource(24))
	for i := 0; i < 3000; i++ {
		b := []byte(examples[1+r.Intn(len(examples)-1)].src)
		for n := r.Intn(4); n > 0; n-- {
			b[r.Intn(len(b))] = " ;()[]{}.,:=<&|+-*019axu\n\xff"[r.Intn(26)]
		}
		check(t, string(b), r.Intn(300)-10)
	}
}
