package exec_test

import (
	"errors"
	"reflect"
	"strconv"
	"strings"
	"testing"

	"trammel/api"
	"trammel/exec"
	"trammel/parse"
)

func prog(t *testing.T, src string) api.Program {
	t.Helper()
	p, err := parse.Parse(src)
	if err != nil {
		t.Fatal(src, err)
	}
	return p
}

// text writes a form as 3+2u0-u1.
func text(l api.Lin) string {
	s := ""
	if l.C != 0 || len(l.T) == 0 {
		s = strconv.Itoa(l.C)
	}
	for _, m := range l.T {
		k := strconv.Itoa(m.K)
		if m.K > 0 && s != "" {
			k = "+" + k
		}
		if m.K == 1 || m.K == -1 {
			k = strings.TrimSuffix(k, "1")
		}
		s += k + "u" + strconv.Itoa(m.V)
	}
	return s
}

// told writes a formula: t, f, 1-u0<=0, u0=0, !, and in brackets & and |.
func told(f api.Form) string {
	var kids []string
	for _, k := range f.Kids {
		kids = append(kids, told(k))
	}
	switch f.Kind {
	case api.FTrue:
		return "t"
	case api.FFalse:
		return "f"
	case api.FLe:
		return text(f.L) + "<=0"
	case api.FEq:
		return text(f.L) + "=0"
	case api.FNot:
		return "!" + kids[0]
	case api.FAnd:
		return "[" + strings.Join(kids, "&") + "]"
	}
	return "[" + strings.Join(kids, "|") + "]"
}

func query(q api.Query) string {
	var l []string
	for _, f := range q.Known {
		l = append(l, told(f))
	}
	return strings.Join(l, " ") + " |- " + told(q.Goal)
}

func queries(r api.Report) string {
	var l []string
	for _, q := range r.Queries {
		l = append(l, query(q))
	}
	return strings.Join(l, "\n")
}

// answers reads y and n.
func answers(s string) []bool {
	var l []bool
	for _, c := range s {
		l = append(l, c == 'y')
	}
	return l
}

// same tells whether two texts are the same line by line, but for blanks at their ends and empty lines.
func same(a, b string) bool {
	clean := func(s string) []string {
		var l []string
		for _, x := range strings.Split(s, "\n") {
			if x = strings.TrimSpace(x); x != "" {
				l = append(l, x)
			}
		}
		return l
	}
	return reflect.DeepEqual(clean(a), clean(b))
}

// rules goes through the first procedure of src, and holds what was asked and what came of it against what is wanted.
func rules(t *testing.T, src, given string, done bool, fail int, want string) {
	t.Helper()
	p := prog(t, src)
	r, err := exec.Run(p, p.Procs[0].Name, answers(given))
	if err != nil || r.Done != done || r.Fail != fail || !same(queries(r), want) {
		t.Errorf("%s (%s): done %v, fail %d, %v\n%s", src, given, r.Done, r.Fail, err, queries(r))
	}
}

// in is a procedure of the parameter x and the ghost u, which has all of x.f, whose value is u, and gives it back with 7.
func in(body string) string {
	return "proc p(x;u) requires pts(x.f,64,u) ensures pts(x.f,64,7) {" + body + "}"
}

func TestExample(t *testing.T) { // P21.1
	src := "proc p(x; ) requires acc(x.f, 64) ensures pts(x.f, 64, 1) { put x.f := 1; }"
	rules(t, src, "yyy", true, 0, `
		1-u0<=0 |- 0=0
		1-u0<=0 1-u0<=0 |- 0=0
		1-u0<=0 1-u0<=0 |- 0=0`)
	rules(t, src, "", false, 0, "1-u0<=0 |- 0=0")
	rules(t, src, "y", false, 0, "1-u0<=0 |- 0=0\n1-u0<=0 1-u0<=0 |- 0=0")
	rules(t, src, "n", false, 0, "1-u0<=0 |- 0=0\n1-u0<=0 |- f")
	rules(t, src, "nn", true, api.FailMissing, "1-u0<=0 |- 0=0\n1-u0<=0 |- f")
	rules(t, src, "ny", true, 0, "1-u0<=0 |- 0=0\n1-u0<=0 |- f") // dead
	rules(t, src, "yyn", true, api.FailValue, "1-u0<=0 |- 0=0\n1-u0<=0 1-u0<=0 |- 0=0\n1-u0<=0 1-u0<=0 |- 0=0")
	rules(t, src, "ynn", true, api.FailMissing, "1-u0<=0 |- 0=0\n1-u0<=0 1-u0<=0 |- 0=0\n1-u0<=0 1-u0<=0 |- f")
	rules(t, src, "yyyyyn", true, 0, "1-u0<=0 |- 0=0\n1-u0<=0 1-u0<=0 |- 0=0\n1-u0<=0 1-u0<=0 |- 0=0") // what is left over
}

func TestStatements(t *testing.T) { // P21.1
	rules(t, "proc p(;) requires emp ensures emp {}", "", true, 0, "")
	rules(t, "proc p(;) requires emp ensures emp {skip;x:=1;y:=x+2*x;}", "", true, 0, "")
	rules(t, "proc p(a,b;u) requires emp ensures [res==a+2*b-u] {x:=a+b;res:=x+b;}", "n", true, api.FailPure, "|- u2=0") // x is u0+u1, res is u0+2u1
	rules(t, "proc p(a;) requires [a<=1] ensures [res==1] {y:=a;a2:=y;}", "y", true, 0, "-1+u0<=0 |- -1=0")
	rules(t, "proc p(a;) requires [true] ensures emp {assert a<2;assert a==1||false;}", "yn", true, api.FailAssert, "t |- -1+u0<=0\nt |- [-1+u0=0|f]") // what was asserted isn't known
	rules(t, in("y:=get x.f;put x.f:=y+1;"), "yyyn", true, api.FailValue, `
		1-u0<=0 |- 0=0
		1-u0<=0 |- 0=0
		1-u0<=0 1-u0<=0 |- 0=0
		1-u0<=0 1-u0<=0 |- -6+u1=0`)
	rules(t, in("y:=get x+1.f;"), "n", false, 0, "1-u0<=0 |- -1=0\n1-u0<=0 |- f")
	rules(t, in("y:=get x+1.f;"), "nn", true, api.FailMissing, "1-u0<=0 |- -1=0\n1-u0<=0 |- f")
	rules(t, in("y:=get x.g;"), "n", true, api.FailMissing, "1-u0<=0 |- f") // other fields aren't asked about
	rules(t, in("free x.f;"), "yn", true, api.FailMissing, "1-u0<=0 |- 0=0\n1-u0<=0 |- f")
	rules(t, in("free x.f;"), "yy", true, 0, "1-u0<=0 |- 0=0\n1-u0<=0 |- f")
	rules(t, in("put x.g:=1;"), "n", true, api.FailMissing, "1-u0<=0 |- f")
	rules(t, in("free x.g;"), "y", true, 0, "1-u0<=0 |- f")
	rules(t, "proc p(;) requires emp ensures emp {x:=new(f,g,f);y:=new(g);assert x!=y;}", "nn", true, api.FailAssert, "1-u0<=0 1-u0<=0 1-u1<=0 !u0-u1=0 |- !u0-u1=0")
	rules(t, "proc p(;) requires emp ensures emp {x:=new(f,f,g,f);y:=get x.g;free x.f;}", "yyy", true, 0, "1-u0<=0 1-u0<=0 |- 0=0\n1-u0<=0 1-u0<=0 |- 0=0\n1-u0<=0 1-u0<=0 |- f")
	rules(t, "proc p(;) requires emp ensures emp {x:=new(f);}", "n", true, api.FailLeak, "1-u0<=0 |- f")
	rules(t, "proc p(;) requires emp ensures emp {x:=new(f);}", "y", true, 0, "1-u0<=0 |- f")
	rules(t, "proc p(;) requires emp ensures pts(res.f,64,0) {res:=new(f,g);free res.g;}", "yyy", true, 0, "1-u0<=0 1-u0<=0 |- 0=0\n1-u0<=0 1-u0<=0 |- 0=0\n1-u0<=0 1-u0<=0 |- 0=0")
}

func TestBranches(t *testing.T) { // P21.1
	rules(t, "proc p(a;) requires emp ensures [res==1] {if a<0{res:=1;}else{skip;}}", "nn", true, api.FailPure, "1+u0<=0 |- 0=0")
	rules(t, "proc p(a;) requires emp ensures [res==1] {if a<0{res:=1;}else{skip;}}", "yn", true, api.FailPure, "1+u0<=0 |- 0=0\n!1+u0<=0 |- -1=0")
	rules(t, "proc p(a;) requires emp ensures emp {if a<0{if a==1{assert false;}else{assert a<=1;}}else{}assert true;}", "yyyyyy", true, 0, `
		1+u0<=0 -1+u0=0 |- f
		1+u0<=0 -1+u0=0 |- t
		1+u0<=0 !-1+u0=0 |- -1+u0<=0
		1+u0<=0 !-1+u0=0 |- t
		!1+u0<=0 |- t`)
	rules(t, "proc p(a;) requires if a<0{acc(a.f,1)}else{[a<5]}&[true] ensures if a==0{emp}else{[a!=0]} {}", "n", true, api.FailLeak, "1+u0<=0 1-u0<=0 t u0=0 |- f")
	rules(t, "proc p(a;) requires if a<0{acc(a.f,1)}else{[a<5]}&[true] ensures if a==0{emp}else{[a!=0]} {}", "yyyy", true, 0, `
		1+u0<=0 1-u0<=0 t u0=0 |- f
		1+u0<=0 1-u0<=0 t !u0=0 |- !u0=0
		1+u0<=0 1-u0<=0 t !u0=0 |- f
		!1+u0<=0 -4+u0<=0 t !u0=0 |- !u0=0`)
	// Unknowns are counted on each path by itself.
	rules(t, "proc p(a;) requires if a<0{acc(a.f,1)}else{acc(a.g,1)} ensures emp {x:=new(h);assert x==a;}", "yyyy", true, 0, `
		1+u0<=0 1-u0<=0 1-u2<=0 |- -u0+u2=0
		1+u0<=0 1-u0<=0 1-u2<=0 |- f
		!1+u0<=0 1-u0<=0 1-u2<=0 |- -u0+u2=0
		!1+u0<=0 1-u0<=0 1-u2<=0 |- f`)
}

func TestFind(t *testing.T) { // P21.1: shares of one cell in several chunks
	pre := "proc p(x,y;u,v) requires pts(x.f,20,u)&pts(y.g,64,1)&pts(y.f,40,v)&acc(3.f,10) ensures "
	known := "1-u0<=0 1-u1<=0 1-u1<=0 [!u0-u1=0|u2-u3=0] -2<=0 [!-3+u0=0|u2-u4=0] [!-3+u1=0|u3-u4=0] |- "
	with := func(goals ...string) string {
		s := ""
		for _, g := range goals {
			s += known + g + "\n"
		}
		return s
	}
	// The first that is the same is asked for its value, and no other; each gives what it has, up to what is missing.
	rules(t, pre+"pts(x.f,30,v) {}", "yyyn", true, api.FailLeak, with("0=0", "u2-u3=0", "-u0+u1=0", "f"))
	rules(t, pre+"pts(x.f,20,v)&acc(y.f,1)&acc(x.f,1) {}", "yyyyn", true, api.FailLeak, with("0=0", "u2-u3=0", "0=0", "-u0+u1=0", "f")) // the chunk that is spent is gone
	rules(t, pre+"pts(x.f,30,v) {}", "nyyn", true, api.FailLeak, with("0=0", "-u0+u1=0", "0=0", "f"))
	rules(t, pre+"pts(x.f,61,v) {}", "yyynn", true, api.FailMissing, with("0=0", "u2-u3=0", "-u0+u1=0", "3-u0=0", "f"))
	rules(t, pre+"pts(x.f,61,v) {}", "yyyyn", true, api.FailLeak, with("0=0", "u2-u3=0", "-u0+u1=0", "3-u0=0", "f"))
	rules(t, pre+"pts(x.f,61,v) {}", "nnny", true, 0, with("0=0", "-u0+u1=0", "3-u0=0", "f"))
	rules(t, pre+"pts(x.f,61,v) {}", "nnyn", true, api.FailValue, with("0=0", "-u0+u1=0", "3-u0=0", "-u3+u4=0"))
	rules(t, pre+"pts(x.f,61,v) {}", "nnyyn", true, api.FailMissing, with("0=0", "-u0+u1=0", "3-u0=0", "-u3+u4=0", "f"))
	rules(t, pre+"acc(y.g,64)&acc(x.f,5)&acc(x.f,16)&acc(y.g,1) {}", "yyynyy", true, 0, with("0=0", "0=0", "0=0", "-u0+u1=0", "3-u0=0", "f"))
	rules(t, pre+"emp {z:=get y.f;assert z==0;}", "nyn", true, api.FailAssert, with("u0-u1=0", "0=0", "u3=0"))
	rules(t, pre+"emp {z:=get y.f;assert z==0;}", "yn", true, api.FailAssert, with("u0-u1=0", "u2=0"))
	rules(t, pre+"emp {put x.f:=1;}", "yyyn", true, api.FailLeak, with("0=0", "-u0+u1=0", "3-u0=0")+strings.Replace(known, "|-", "1-u0<=0 !3-u0=0 |-", 1)+"f")
	rules(t, pre+"emp {free y.g;z:=get y.g;}", "yn", true, api.FailMissing, with("0=0", "f"))
}

func TestLoops(t *testing.T) { // P21.1
	src := "proc p(n; ) requires [0 <= n] ensures [res == n] { while res < n invariant [res <= n] { res := res + 1; } }"
	rules(t, src, "yyy", true, 0, `
		-u0<=0 |- -u0<=0
		-u0<=0 -u0+u1<=0 1-u0+u1<=0 |- 1-u0+u1<=0
		-u0<=0 -u0+u1<=0 !1-u0+u1<=0 |- -u0+u1=0`)
	rules(t, src, "n", true, api.FailPure, "-u0<=0 |- -u0<=0")
	rules(t, src, "yn", true, api.FailPure, "-u0<=0 |- -u0<=0\n-u0<=0 -u0+u1<=0 1-u0+u1<=0 |- 1-u0+u1<=0")
}

func TestLoopHeap(t *testing.T) { // P21.1
	// The body has no chunks but those of the invariant; behind it are those that were left.
	src := "proc p(x;u) requires pts(x.f,64,u)&acc(x.g,2) ensures emp { while a==b invariant pts(x.f,3,b) { b:=a;a:=get x.f;y:=get x.g; } z:=get x.g;z:=get x.f; }"
	known := "1-u0<=0 1-u0<=0 "
	in := known + "1-u0<=0 -u3+u4=0 |- "                  // b is u3, a is u4, y is u5
	out := known + "1-u0<=0 [!0=0|u1-u3=0] !-u3+u4=0 |- " // 61 and 3 of the cell
	rules(t, src, "yyyyyyn", true, api.FailLeak, known+"|- 0=0\n"+known+"|- u1=0\n"+in+"0=0\n"+in+"f\n"+out+"0=0\n"+out+"0=0\n"+out+"f\n")
	rules(t, src, "yyyn", true, api.FailMissing, known+"|- 0=0\n"+known+"|- u1=0\n"+in+"0=0\n"+in+"f\n")
	// What the body leaves must be what the invariant says, and no more.
	leak := "proc p(;) requires emp ensures emp { while true invariant emp { x:=new(f); } }"
	rules(t, leak, "n", true, api.FailLeak, "t 1-u1<=0 |- f")
	rules(t, leak, "y", true, 0, "t 1-u1<=0 |- f")
	// An invariant that branches: twice the two paths.
	rules(t, "proc p(a;) requires emp ensures [true] { while a<b invariant if a<0 {emp} else {[b<=1]} { b:=b+1; } }", "yyyyyyyyyyyy", true, 0, `
		1+u0<=0 1+u0<=0 1+u0-u1<=0 !1+u0<=0 |- u1<=0
		1+u0<=0 !1+u0<=0 -1+u1<=0 1+u0-u1<=0 !1+u0<=0 |- u1<=0
		1+u0<=0 1+u0<=0 !1+u0-u1<=0 |- t
		1+u0<=0 !1+u0<=0 -1+u1<=0 !1+u0-u1<=0 |- t
		!1+u0<=0 |- -1<=0
		!1+u0<=0 1+u0<=0 1+u0-u1<=0 !1+u0<=0 |- u1<=0
		!1+u0<=0 !1+u0<=0 -1+u1<=0 1+u0-u1<=0 !1+u0<=0 |- u1<=0
		!1+u0<=0 1+u0<=0 !1+u0-u1<=0 |- t
		!1+u0<=0 !1+u0<=0 -1+u1<=0 !1+u0-u1<=0 |- t`)
}

func TestCalls(t *testing.T) { // P21.1
	q := " proc q(a,b;c) requires pts(a.f,3,c)&[b<c] ensures pts(a.f,3,res)&[res==b+c] {}"
	src := "proc p(x;u) requires pts(x.f,64,u)&[5<=u] ensures emp { a:=1;y:=call q(x,4+x-x;u);assert y==a;z:=get x.f; }" + q
	known := "1-u0<=0 5-u1<=0 |- "
	after := "1-u0<=0 5-u1<=0 1-u0<=0 [!0=0|u1-u2=0] -4-u1+u2=0 |- "
	rules(t, src, "yyyyyy", true, 0, known+"0=0\n"+known+"0=0\n"+known+"5-u1<=0\n"+after+"-1+u2=0\n"+after+"0=0\n"+after+"f")
	rules(t, src, "yyn", true, api.FailPure, known+"0=0\n"+known+"0=0\n"+known+"5-u1<=0")
	rules(t, "proc p(x;u) requires emp ensures [res==0] { res:=3;call q(x;); } proc q(a;) requires [a==1] ensures [res==a] {}", "yn", true, api.FailPure, "|- -1+u0=0\n-u0+u2=0 |- 3=0") // no Name: res stays
	rules(t, "proc p(x;) requires emp ensures [res==0] { res:=call p(x+1;); }", "n", true, api.FailPure, "u1=0 |- u1=0")
	rules(t, "proc p(x;y) requires [x==y] ensures emp { call p(y2;y+1); }", "n", true, api.FailPure, "u0-u1=0 |- -1-u1=0")
}

func repeat(n int, s string) string { return strings.Repeat(s, n) }

// far goes through p with all answers yes, and tells whether it is FailFar.
func far(t *testing.T, src string, want bool) api.Report {
	t.Helper()
	r, err := exec.Drive(prog(t, src), "p", func(api.Query) bool { return true })
	if err != nil || !r.Done || (r.Fail == api.FailFar) != want || !want && r.Fail != 0 {
		t.Errorf("%.60s: %v %d %d %v", src, r.Done, r.Fail, len(r.Queries), err)
	}
	return r
}

func TestSteps(t *testing.T) { // P21.1: 2 of the 2000 are Pre and Post
	far(t, "proc p(;) requires emp ensures emp {"+repeat(1998, "skip;")+"}", false)
	far(t, "proc p(;) requires emp ensures emp {"+repeat(1999, "skip;")+"}", true)
	far(t, "proc p(;) requires emp&emp ensures emp {"+repeat(1996, "skip;")+"}", false)
	far(t, "proc p(;) requires emp&emp ensures emp {"+repeat(1997, "skip;")+"}", true)
	far(t, "proc p(;) requires emp ensures emp {if true{"+repeat(990, "skip;")+"}else{"+repeat(1006, "skip;")+"}}", false) // 1 + 1 + 990 + 1 + 1006 + 1
	far(t, "proc p(;) requires emp ensures emp {if true{"+repeat(990, "skip;")+"}else{"+repeat(1007, "skip;")+"}}", true)
	far(t, "proc p(;) requires emp ensures emp {while true invariant emp{"+repeat(1993, "skip;")+"}}", false) // Pre, it, consumed, produced, .., consumed, produced, Post
	far(t, "proc p(;) requires emp ensures emp {while true invariant emp{"+repeat(1994, "skip;")+"}}", true)
	far(t, "proc p(;) requires emp ensures emp {call q(;);"+repeat(1995, "skip;")+"} proc q(;) requires emp ensures emp {skip;skip;}", false)
	far(t, "proc p(;) requires emp ensures emp {call q(;);"+repeat(1996, "skip;")+"} proc q(;) requires emp ensures emp {}", true)
}

func TestQueries(t *testing.T) { // P21.1
	if r := far(t, "proc p(;) requires emp ensures emp {"+repeat(250, "assert true;")+"}", false); len(r.Queries) != 250 {
		t.Error(len(r.Queries))
	}
	if r := far(t, "proc p(;) requires emp ensures emp {"+repeat(251, "assert true;")+"}", true); len(r.Queries) != 250 {
		t.Error(len(r.Queries))
	}
	if r := far(t, "proc p(;) requires emp ensures emp {if true{"+repeat(125, "assert true;")+"}else{"+repeat(126, "assert true;")+"}}", true); len(r.Queries) != 250 {
		t.Error(len(r.Queries))
	}
	src := "proc p(;) requires emp ensures emp {" + repeat(251, "assert true;") + "}"
	if r, err := exec.Run(prog(t, src), "p", answers(repeat(250, "y"))); err != nil || !r.Done || r.Fail != api.FailFar {
		t.Error(r.Done, r.Fail, err)
	}
	if r, err := exec.Run(prog(t, src), "p", answers(repeat(249, "y"))); err != nil || r.Done || r.Fail != 0 || len(r.Queries) != 250 {
		t.Error(r.Done, r.Fail, err)
	}
}

func TestKnownAndChunks(t *testing.T) { // P21.1
	some := func(n int) string { // as rows that aren't deep
		var l []string
		for ; n > 0; n -= 80 {
			l = append(l, "("+"[true]"+repeat(min(n, 80)-1, "&[true]")+")")
		}
		return strings.Join(l, "&")
	}
	far(t, "proc p(;) requires "+some(400)+" ensures emp {}", false)
	far(t, "proc p(;) requires "+some(401)+" ensures emp {}", true)
	far(t, "proc p(;) requires "+some(399)+" ensures emp {if true{}else{}}", false)
	far(t, "proc p(;) requires "+some(400)+" ensures emp {if true{}else{}}", true)
	far(t, "proc p(;) requires "+some(399)+" ensures emp {x:=new(f);free x.f;}", false)
	far(t, "proc p(;) requires "+some(400)+" ensures emp {x:=new(f);free x.f;}", true)
	far(t, "proc p(;) requires "+some(400)+" ensures emp {if false{}else{}}", true)
	fields := func(n int) string {
		var l []string
		for i := 0; i < n; i++ {
			l = append(l, "f"+strconv.Itoa(i))
		}
		return strings.Join(l, ",")
	}
	far(t, "proc p(;) requires emp ensures emp {x:=new("+fields(64)+");}", false)
	far(t, "proc p(;) requires emp ensures emp {x:=new("+fields(65)+");}", true)
	far(t, "proc p(;) requires emp ensures emp {x:=new("+fields(64)+",f0,f1);}", false)
	far(t, "proc p(;) requires emp ensures emp {x:=new("+fields(64)+");free x.f0;x:=new(f0);}", false)
}

func TestFarForms(t *testing.T) { // P21.1
	top := "1073741824"
	for _, body := range []string{"y:=" + top + "+1;", "y:=2*" + top + ";", "assert " + top + "<0;", "if " + top + "==-1{}else{}", "while " + top + "==-1 invariant emp{}", "while true invariant [" + top + "<0]{}", "while true invariant if " + top + "<0{emp}else{emp}{}", "y:=get 2*" + top + ".f;", "put 2*" + top + ".f:=0;", "put 0.f:=2*" + top + ";", "free 2*" + top + ".f;", "call q(2*" + top + ";0);", "call q(0;2*" + top + ");", "call q(" + top + ";0);", "z:=-" + top + ";put z.f:=1;", "while true invariant acc(2*" + top + ".f,1){}", "while true invariant pts(1.f,1,2*" + top + "){}"} {
		if r := far(t, "proc p(;) requires acc(1.f,64) ensures acc(1.f,64) {"+body+"} proc q(a;b) requires [a+1==b] ensures emp {}", true); len(r.Queries) > 1 {
			t.Error(body, len(r.Queries))
		}
	}
	far(t, "proc p(;) requires acc(-"+top+".f,1) ensures emp {}", true)
	far(t, "proc p(x;) requires acc("+top+".f,1)&acc(-1.f,1) ensures emp {}", true)
	far(t, "proc p(x;) requires pts(x.f,1,"+top+")&pts(x.f,1,-1) ensures emp {}", true)
	far(t, "proc p(x;) requires pts(x.f,1,"+top+") ensures pts(x.f,1,-1) {}", true)
	far(t, "proc p(x;) requires pts("+top+".f,1,0) ensures pts(-1.f,1,0) {}", true)
	far(t, "proc p(x;) requires pts("+top+".f,1,0) ensures emp {y:=get -1.f;}", true)
	far(t, "proc p(x;) requires [2*"+top+"==0] ensures emp {}", true)
	far(t, "proc p(x;) requires emp ensures [2*"+top+"==0] {}", true)
}

func TestErrors(t *testing.T) { // P21.1, P21.2, R1, R3
	p := prog(t, in("skip;"))
	twice := prog(t, in("")+in(""))
	for i, x := range []struct {
		p    api.Program
		name string
		err  api.Code
		at   int
	}{{p, "q", api.ErrNone, -1}, {p, "", api.ErrNone, -1}, {twice, "q", api.ErrTwice, 1}, {prog(t, in("x:=1;")), "p", api.ErrName, 0}, {api.Program{Procs: []api.Proc{{Name: "1"}}}, "p", api.ErrForm, -1}} {
		r, err := exec.Run(x.p, x.name, nil)
		d, err2 := exec.Drive(x.p, x.name, func(api.Query) bool { t.Error("asked"); return true })
		for _, err := range []error{err, err2} {
			var s *api.Spot
			if !errors.Is(err, x.err) || errors.As(err, &s) != (x.at >= 0) || s != nil && s.At != x.at {
				t.Error(i, err)
			}
		}
		if !reflect.DeepEqual(r, api.Report{}) || !reflect.DeepEqual(d, api.Report{}) {
			t.Error(i, r, d)
		}
	}
}

func TestDrive(t *testing.T) { // P21.2
	src := in("y:=get x.f;if y<3{put x.f:=7;}else{assert y==7;}")
	p := prog(t, src)
	for bits := 0; bits < 256; bits++ {
		var given []bool
		var seen []string
		r, err := exec.Drive(p, "p", func(q api.Query) bool {
			seen = append(seen, query(q))
			given = append(given, bits>>len(given)&1 == 1)
			for i := range q.Known { // what is handed out is whoever asks's own
				q.Known[i] = api.Form{Kind: 77}
			}
			if len(q.Goal.L.T) > 0 {
				q.Goal.L.T[0].K = 77
			}
			return given[len(given)-1]
		})
		again, err2 := exec.Run(p, "p", given)
		if err != nil || err2 != nil || !reflect.DeepEqual(r, again) || queries(r) != strings.Join(seen, "\n") {
			t.Fatal(bits, queries(r), queries(again))
		}
		for n := range given { // P21.4: with the first answers the first queries
			few, err := exec.Run(p, "p", given[:n])
			if err != nil || few.Done || few.Fail != 0 || len(few.Queries) != n+1 || !strings.HasPrefix(queries(r), queries(few)) {
				t.Fatal(bits, n, queries(few))
			}
		}
	}
	if !reflect.DeepEqual(p, prog(t, src)) {
		t.Error("changed") // P21.3
	}
}

func TestFormula(t *testing.T) { // P21.2
	a, b := api.Form{Kind: api.FLe, L: api.Lin{C: 3}}, api.Form{Kind: api.FNot}
	for want, q := range map[string]api.Query{"[3<=0&!f&!3<=0]": {Known: []api.Form{a, {Kind: api.FNot, Kids: []api.Form{{Kind: api.FFalse}}}}, Goal: a}, "[!t]": {}, "[t&!!t]": {Known: []api.Form{{}}, Goal: api.Form{Kind: api.FNot, Kids: []api.Form{{}}}}} {
		if s := told(exec.Formula(q)); s != want {
			t.Error(s, want)
		}
	}
	known := append(make([]api.Form, 0, 9), a, b)
	exec.Formula(api.Query{Known: known, Goal: a})
	if known[:3][2].Kind != 0 {
		t.Error("changed")
	}
}
