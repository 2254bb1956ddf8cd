package kernel_test

import (
	"errors"
	"math/rand"
	"reflect"
	"testing"

	"trammel/api"
	"trammel/exec"
	"trammel/kernel"
	"trammel/pack"
	"trammel/parse"
	"trammel/smt"
)

func prog(t *testing.T, src string) api.Program {
	t.Helper()
	p, err := parse.Parse(src)
	if err != nil {
		t.Fatal(src, err)
	}
	return p
}

// spot is where an error is, and its Code.
func spot(err error) (int, error) {
	var s *api.Spot
	if errors.As(err, &s) {
		return s.At, s.Err
	}
	return -1, err
}

// plain is yes with a certificate for what is false by its parts alone.
func plain() api.Reply {
	return api.Reply{Yes: true, Cert: api.Cert{Refute: [][]int{{}}}}
}

func record(name string, r ...api.Reply) api.Record { return api.Record{Name: name, Replies: r} }

func witness(r ...api.Record) api.Witness { return api.Witness{Records: r} }

const put = "proc p(x;) requires acc(x.f,64) ensures pts(x.f,64,1) {put x.f:=1;}" // three questions, each whether 0 is 0
const none = " proc q(;) requires emp ensures emp {}"
const swap = " proc swap(a,b;u,v) requires pts(a.f,64,u)&pts(b.f,64,v) ensures pts(b.f,64,u)&pts(a.f,64,v) {x:=get a.f;y:=get b.f;put a.f:=y;put b.f:=x;}"

// found is a witness that is searched for.
func found(t *testing.T, p api.Program) api.Witness {
	t.Helper()
	var w api.Witness
	for _, q := range p.Procs {
		r := record(q.Name)
		exec.Drive(p, q.Name, func(q api.Query) bool {
			a, _ := smt.Solve(exec.Formula(q), 1000)
			r.Replies = append(r.Replies, api.Reply{Yes: a.Kind == api.Unsat, Cert: a.Cert})
			return a.Kind == api.Unsat
		})
		w.Records = append(w.Records, r)
	}
	return w
}

func TestTaken(t *testing.T) { // P22.1, P22.2
	for i, x := range []struct {
		src string
		w   api.Witness
	}{
		{"", witness()}, {none, witness(record("q"))}, {put, witness(record("p", plain(), plain(), plain()))}, {put + none, witness(record("p", plain(), plain(), plain()), record("q"))},
	} {
		p := prog(t, x.src)
		b, err := pack.Write(x.w)
		if err != nil || kernel.Check(p, x.w) != nil || kernel.Bytes(p, b) != nil {
			t.Error(i, kernel.Check(p, x.w))
		}
	}
	p := prog(t, put+swap)
	w := found(t, p)
	b, _ := pack.Write(w)
	if err := kernel.Check(p, w); err != nil || kernel.Bytes(p, b) != nil {
		t.Error(err)
	}
	dead := prog(t, "proc p(;) requires [false]&acc(1.f,1) ensures emp {}") // a no is taken without a certificate, where it does no harm
	if err := kernel.Check(dead, witness(record("p", plain()))); err != nil {
		t.Error(err)
	}
	miss := prog(t, "proc p(;) requires [false]&acc(1.f,1)&acc(2.f,1) ensures acc(2.f,1)&acc(1.f,1) {}")
	if err := kernel.Check(miss, witness(record("p", api.Reply{}, plain(), plain()))); err != nil {
		t.Error(err)
	}
	if err := kernel.Check(miss, witness(record("p", api.Reply{}, api.Reply{}, plain()))); err != nil {
		t.Error(err)
	}
}

func TestRefused(t *testing.T) { // P22.1, R1
	no, bad := api.Reply{}, api.Reply{Yes: true}
	for i, x := range []struct {
		src  string
		w    api.Witness
		at   int
		code api.Code
	}{
		{put, witness(), -1, api.ErrCount}, {"", witness(record("p")), -1, api.ErrCount}, {put, witness(record("p", plain(), plain(), plain()), record("p", plain(), plain(), plain())), -1, api.ErrCount}, {put + none, witness(record("p", plain(), plain(), plain())), -1, api.ErrCount},
		{put, witness(record("q", plain(), plain(), plain())), 0, api.ErrName}, {put, witness(record("")), 0, api.ErrName}, {put + none, witness(record("q"), record("p", plain(), plain(), plain())), 0, api.ErrName}, {put + none, witness(record("p", plain(), plain(), plain()), record("p")), 1, api.ErrName},
		{put, witness(record("p")), 0, api.ErrOpen}, {put, witness(record("p", plain(), plain())), 0, api.ErrOpen}, {put, witness(record("p", plain(), plain(), no)), 0, api.ErrOpen}, {put, witness(record("p", no, no)), 0, api.ErrOpen}, {put, witness(record("p", no)), 0, api.ErrOpen},
		{put, witness(record("p", no, no, plain(), plain())), 0, api.ErrOpen}, // it fails, ahead of what is left over
		{put, witness(record("p", plain(), plain(), plain(), plain())), 0, api.ErrCount}, {put, witness(record("p", bad, plain(), plain(), no)), 0, api.ErrCount}, {none, witness(record("q", no)), 0, api.ErrCount},
		{put, witness(record("p", bad, plain(), plain())), 0, api.ErrStep}, {put, witness(record("p", plain(), plain(), bad)), 0, api.ErrStep}, {put, witness(record("p", plain(), api.Reply{Yes: true, Cert: api.Cert{Lemmas: make([]api.Lemma, 1), Refute: [][]int{{}}}}, plain())), 0, api.ErrStep},
		{put, witness(record("p", no, plain())), 0, api.ErrStep}, // dead, it says; but it isn't
		{none + put, witness(record("q"), record("p", plain())), 1, api.ErrOpen}, {none + put, witness(record("q", plain()), record("z")), 0, api.ErrCount},
		{"proc p(x;) requires acc(x.f,64) ensures pts(x.f,64,2) {put x.f:=1;}", witness(record("p", plain(), plain(), plain())), 0, api.ErrStep}, // what isn't so
		{"proc p(x;) requires acc(x.f,63) ensures pts(x.f,63,1) {put x.f:=1;}", witness(record("p", plain(), plain())), 0, api.ErrStep},
		{"proc p(;) requires emp ensures emp {z:=1073741824+1;}", witness(record("p")), 0, api.ErrOpen}, {"proc p(x;) requires emp ensures [x!=0] {}", witness(record("p", plain())), 0, api.ErrStep},
		{"proc p(x,x;) requires emp ensures emp {}", witness(), 0, api.ErrTwice}, {none + "proc p(x;) requires [y==1] ensures emp {}", witness(), 1, api.ErrName}, {none + none, witness(record("z")), 1, api.ErrTwice}, {"proc p(;) requires emp ensures emp {call p(1;);}", witness(record("z")), 0, api.ErrCount},
	} {
		p := prog(t, x.src)
		b, _ := pack.Write(x.w)
		for _, err := range []error{kernel.Check(p, x.w), kernel.Bytes(p, b)} {
			if at, code := spot(err); at != x.at || code != error(x.code) {
				t.Error(i, x.src, at, code)
			}
		}
	}
	if err := kernel.Check(api.Program{Procs: []api.Proc{{Name: "1"}}}, witness()); err != error(api.ErrForm) {
		t.Error(err)
	}
}

func TestBytes(t *testing.T) { // P22.2, R1
	p, wrong := prog(t, none), prog(t, "proc p(x,x;) requires emp ensures emp {}")
	for i, x := range []struct {
		p   api.Program
		b   []byte
		err error
	}{
		{p, nil, api.ErrForm}, {p, []byte{2, 2, 'q', 0}, nil}, {p, []byte{2, 2, 'q', 0, 0}, api.ErrMore}, {p, []byte{0}, api.ErrCount}, {p, make([]byte, api.MaxBytes+1), api.ErrLong}, {wrong, []byte{1}, api.ErrForm}, {wrong, []byte{0, 0}, api.ErrMore}, {prog(t, ""), []byte{0}, nil},
	} {
		if err := kernel.Bytes(x.p, x.b); err != x.err {
			t.Error(i, err)
		}
	}
}

func TestSpoilt(t *testing.T) { // P22.4: a witness of what isn't so is never taken, whatever is done to it
	r := rand.New(rand.NewSource(22))
	right := prog(t, put+swap)
	b, _ := pack.Write(found(t, right))
	var wrong []api.Program
	for _, src := range []string{
		put + " proc swap(a,b;u,v) requires pts(a.f,64,u)&pts(b.f,64,v) ensures pts(b.f,64,v)&pts(a.f,64,v) {x:=get a.f;y:=get b.f;put a.f:=y;put b.f:=x;}",
		put + " proc swap(a,b;u,v) requires pts(a.f,64,u)&pts(b.f,64,v) ensures pts(b.f,64,u)&pts(a.f,64,v) {x:=get a.f;y:=get b.f;put a.f:=x;put b.f:=x;}",
		"proc p(x;) requires acc(x.f,64) ensures pts(x.f,64,2) {put x.f:=1;}" + swap,
	} {
		wrong = append(wrong, prog(t, src))
	}
	for i := 0; i < 3000; i++ {
		o := append([]byte(nil), b...)
		for n := r.Intn(3); n > 0; n-- {
			o[r.Intn(len(o))] = byte(r.Intn(256))
		}
		if err := kernel.Bytes(wrong[i%len(wrong)], o); err == nil {
			t.Fatalf("taken: %x", o)
		}
		kernel.Bytes(right, o)
	}
}

func TestMemory(t *testing.T) { // P22.3, R2
	p := prog(t, put+swap)
	w, again := found(t, p), found(t, p)
	for i := 0; i < 2; i++ {
		if err := kernel.Check(p, w); err != nil {
			t.Error(err)
		}
	}
	if !reflect.DeepEqual(w, again) || !reflect.DeepEqual(p, prog(t, put+swap)) {
		t.Error("changed")
	}
}
