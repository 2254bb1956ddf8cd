package names_test

import (
	"errors"
	"reflect"
	"slices"
	"strings"
	"testing"

	"trammel/api"
	"trammel/names"
	"trammel/parse"
)

func prog(t *testing.T, src string) api.Program {
	t.Helper()
	p, err := parse.Parse(src)
	if err != nil {
		t.Fatal(src, err)
	}
	return p
}

func spot(err error) (int, error) {
	var s *api.Spot
	if errors.As(err, &s) {
		return s.At, s.Err
	}
	return -1, err
}

// in is a procedure p of a parameter x and a ghost u, and one q of two parameters and a ghost.
func in(body string) string {
	return "proc p(x;u) requires emp ensures emp {" + body + "} proc q(a,b;c) requires emp ensures emp {}"
}

func TestCheck(t *testing.T) { // P16.1
	for i, src := range []string{
		"", "proc p(x; ) requires emp ensures [res == x] { res := x; }", "proc p(x,y;u,v) requires acc(x.f,1)&[u==v||x<y] ensures pts(u.f,64,v)&[res==x] {}",
		in("y:=x;z:=get y.f;y:=new(f);y:=call q(x,1;u);"), in("while x<1 invariant [u==z]&acc(u.f,64) {z:=z+1;}"), in("call q(1,2;u+u);call p(x;w);"), in("assert y==z;free y.f;put y.f:=z;"),
		in("y:=res;res:=1;x2:=x;"), "proc p(;) requires emp ensures [res==0]{} proc q(p,q;) requires emp ensures emp {p2:=1;}", in("if x==y{y:=1;}else{u2:=2;}"),
		"proc p(;) requires emp ensures emp {call q(;);} proc q(;) requires emp ensures emp {call q(;);call p(;);}", "proc p(x;) requires [x==0] ensures emp {while true invariant [y==0]{y:=1;}}",
	} {
		if err := names.Check(prog(t, src)); err != nil {
			t.Error(i, err)
		}
	}
}

func TestAmiss(t *testing.T) { // P16.1, R1
	for i, x := range []struct {
		src  string
		at   int
		code api.Code
	}{
		{"proc p(x; ) requires [y == 0] ensures emp { }", 0, api.ErrName},
		// ErrTwice
		{"proc p(;) requires emp ensures emp {} proc p(;) requires emp ensures emp {}", 1, api.ErrTwice}, {"proc p(x,y,x;) requires emp ensures emp {}", 0, api.ErrTwice}, {"proc p(;u,v,u) requires emp ensures emp {}", 0, api.ErrTwice}, {"proc p(x;x) requires emp ensures emp {}", 0, api.ErrTwice},
		{"proc p(res;) requires emp ensures emp {}", 0, api.ErrTwice}, {"proc p(;res) requires emp ensures emp {}", 0, api.ErrTwice}, {"proc a(;) requires emp ensures emp {} proc p(;) requires emp ensures emp {} proc p(;) requires emp ensures emp {} proc a(;) requires emp ensures emp {}", 2, api.ErrTwice},
		{"proc p(x,x;) requires [y==0] ensures emp {call z(;);}", 0, api.ErrTwice},
		// ErrName: assigned
		{in("x:=1;"), 0, api.ErrName}, {in("u:=1;"), 0, api.ErrName}, {in("u:=get y.f;"), 0, api.ErrName}, {in("x:=new(f);"), 0, api.ErrName}, {in("x:=call q(1,2;3);"), 0, api.ErrName}, {in("while true invariant emp{if true{}else{x:=1;}}"), 0, api.ErrName},
		// a ghost that is read
		{in("y:=1+2*u;"), 0, api.ErrName}, {in("y:=get u.f;"), 0, api.ErrName}, {in("put u.f:=1;"), 0, api.ErrName}, {in("put y.f:=u;"), 0, api.ErrName}, {in("free u.f;"), 0, api.ErrName}, {in("assert true&&!u==1;"), 0, api.ErrName}, {in("if 1<=u{}else{}"), 0, api.ErrName}, {in("while u<1 invariant emp{}"), 0, api.ErrName}, {in("call q(1,u;2);"), 0, api.ErrName}, {in("if true{if false{}else{y:=u;}}else{}"), 0, api.ErrName}, {in("while true invariant emp{y:=u;}"), 0, api.ErrName},
		// what isn't its own in Pre and Post
		{"proc p(x;u) requires emp ensures [y==0] {y:=1;}", 0, api.ErrName}, {"proc p(x;u) requires [res==0] ensures emp {}", 0, api.ErrName}, {"proc p(x;u) requires acc(y.f,1) ensures emp {}", 0, api.ErrName}, {"proc p(x;u) requires pts(x.f,1,y) ensures emp {}", 0, api.ErrName}, {"proc p(x;u) requires emp&if true{emp}else{[!y<1||true]} ensures emp {}", 0, api.ErrName}, {"proc p(x;u) requires if y<1{emp}else{emp} ensures emp {}", 0, api.ErrName}, {"proc p(x;u) requires emp ensures emp&pts(x.f,1,1+f) {}", 0, api.ErrName},
		// no procedure
		{in("call z(;);"), 0, api.ErrName}, {in("if true{y:=call x(;);}else{}"), 0, api.ErrName}, {"proc q(;) requires emp ensures emp {} " + strings.Replace(in("call z(1;2);"), "proc q", "proc r", 1), 1, api.ErrName},
		{in("call q(;);call z(;);"), 0, api.ErrName}, // a name ahead of a count
		// ErrCount
		{in("call q(1;2);"), 0, api.ErrCount}, {in("call q(1,2,3;4);"), 0, api.ErrCount}, {in("call q(1,2;);"), 0, api.ErrCount}, {in("y:=call q(1,2;3,4);"), 0, api.ErrCount}, {in("while true invariant acc(x.f,0){call p(;1);}"), 0, api.ErrCount}, {in("if true{}else{call p(1;);}"), 0, api.ErrCount},
		// ErrArg
		{"proc p(x;) requires acc(x.f,0) ensures emp {}", 0, api.ErrArg}, {"proc p(x;) requires acc(x.f,65) ensures emp {}", 0, api.ErrArg}, {"proc p(x;) requires emp ensures pts(x.f,0,1) {}", 0, api.ErrArg}, {"proc p(x;) requires emp ensures pts(x.f,1073741824,1) {}", 0, api.ErrArg}, {"proc p(x;) requires if true{emp}else{emp&acc(x.f,65)} ensures emp {}", 0, api.ErrArg}, {in("if true{while true invariant emp&acc(x.f,0){}}else{}"), 0, api.ErrArg}, {in("while true invariant emp{while true invariant pts(x.f,65,1){}}"), 0, api.ErrArg},
		// the first procedure, whatever is amiss with it
		{"proc p(x;) requires acc(x.f,0) ensures emp {} proc p(x;) requires emp ensures emp {}", 0, api.ErrArg}, {"proc q(;) requires emp ensures emp {} proc p(x;) requires emp ensures emp {call q(1;);} proc r(x,x;) requires emp ensures emp {}", 1, api.ErrCount},
		{"proc p(;) requires emp ensures emp {call q(1;);} proc q(x;) requires emp ensures emp {} proc q(;) requires emp ensures emp {}", 2, api.ErrTwice}, // the first one of a name counts
	} {
		err := names.Check(prog(t, x.src))
		if at, code := spot(err); at != x.at || code != error(x.code) {
			t.Error(i, x.src, at, code)
		}
	}
	deep := api.Stmt{}
	for i := 0; i < 200; i++ {
		deep = api.Stmt{Kind: api.SIf, Body: []api.Stmt{deep}}
	}
	for i, x := range []struct {
		p   api.Program
		err error
	}{
		{api.Program{Procs: []api.Proc{{Name: "p"}, {Name: "p"}, {Name: "1"}}}, api.ErrForm}, {api.Program{Procs: []api.Proc{{Name: "p", Body: []api.Stmt{{Kind: api.SCall, Callee: "q"}, deep}}}}, api.ErrDepth}, {api.Program{Procs: []api.Proc{{}}}, api.ErrForm},
	} {
		if err := names.Check(x.p); err != x.err {
			t.Error(i, err)
		}
	}
}

func TestLaterBodies(t *testing.T) { // P16.4
	for _, first := range []string{"proc p(x;u) requires emp ensures emp {call q(1;2);}", "proc p(x;u) requires emp ensures emp {call q(1;);}", "proc p(x,x;u) requires emp ensures emp {}"} {
		_, want := spot(names.Check(prog(t, first+"proc q(a;b) requires emp ensures emp {}")))
		for _, body := range []string{"a:=1;", "call q(;);", "call z(;);", "while true invariant acc(a.f,0){}", "c:=b;"} {
			at, got := spot(names.Check(prog(t, first+"proc q(a;b) requires emp ensures emp {"+body+"}")))
			if want != nil && (got != want || at != 0) || want == nil && at != 1 {
				t.Error(first, body, at, got)
			}
		}
	}
}

func TestFind(t *testing.T) { // P16.2, R3
	p := prog(t, "proc p(x;) requires emp ensures emp {} proc q(y;u) requires acc(y.f,1) ensures [u==1] {z:=y+1;} proc p(z;) requires emp ensures emp {}")
	q, err := names.Find(p, "q")
	if err != nil || !reflect.DeepEqual(q, p.Procs[1]) {
		t.Error(q, err)
	}
	if q, err := names.Find(p, "p"); err != nil || q.Params[0] != "x" {
		t.Error(q, err)
	}
	for _, name := range []string{"", "r", "pq", "x"} {
		if q, err := names.Find(p, name); err != error(api.ErrNone) || !reflect.DeepEqual(q, api.Proc{}) {
			t.Error(name, q, err)
		}
	}
	if _, err := names.Find(api.Program{}, "p"); err != error(api.ErrNone) {
		t.Error(err)
	}
}

func TestAssigned(t *testing.T) { // P16.2
	for src, want := range map[string]string{
		"": "", "skip;put x.f:=1;assert true;call p(1;2);": "", "b:=1;a:=2;b:=3;": "b a", "a:=get x.f;b:=new(f);c:=call p(1;2);": "a b c",
		"a:=1;if true{b:=1;if true{c:=1;}else{d:=1;}e:=1;}else{f:=1;b:=2;}g:=1;": "a b c d e f g", "while true invariant [z==1]{b:=a;while true invariant emp{a:=b;}}": "b a", "if true{}else{y:=1;}y:=2;": "y",
	} {
		got := names.Assigned(prog(t, in(src)).Procs[0].Body)
		if strings.Join(got, " ") != want {
			t.Error(src, got)
		}
	}
	odd := []api.Stmt{{Kind: api.SWhile, Name: "w", Body: []api.Stmt{{Kind: api.SSkip, Name: "s"}, {Kind: 77, Name: ""}, {Kind: -5, Name: "9"}}, Else: []api.Stmt{{Name: "e"}}}} // of whatever Kind
	if got := names.Assigned(odd); !slices.Equal(got, []string{"w", "s", "9", "e"}) {
		t.Error(got)
	}
}

func TestMemory(t *testing.T) { // P16.3, R2
	src := in("if x==1{y:=x;}else{y:=call q(x,1+x;u);}") + "proc r(a;b) requires if a==b{acc(a.f,1)}else{emp} ensures emp {x:=new(f,g);while a==1 invariant emp{put a.f:=a+1;}y:=call q(1+a,2;b+1);}"
	p := prog(t, src)
	names.Check(p)
	q, _ := names.Find(p, "r")
	spoil(reflect.ValueOf(&q).Elem())
	l := names.Assigned(p.Procs[0].Body)
	l[0] = "spoilt"
	if !reflect.DeepEqual(p, prog(t, src)) {
		t.Error("changed, or shared")
	}
	if l := names.Assigned(p.Procs[0].Body); !slices.Equal(l, []string{"y"}) {
		t.Error(l)
	}
}

// spoil writes into all memory that it reaches.
func spoil(r reflect.Value) {
	switch r.Kind() {
	case reflect.Struct:
		for i := 0; i < r.NumField(); i++ {
			spoil(r.Field(i))
		}
	case reflect.Slice:
		for i := 0; i < r.Len(); i++ {
			spoil(r.Index(i))
		}
	case reflect.String:
		r.SetString("spoilt")
	case reflect.Int:
		r.SetInt(77)
	}
}
