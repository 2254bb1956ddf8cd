package pack_test

import (
	"bytes"
	"math"
	"math/rand"
	"reflect"
	"strings"
	"testing"

	"trammel/api"
	"trammel/pack"
)

func one(r ...api.Record) api.Witness { return api.Witness{Records: r} }

func record(name string, r ...api.Reply) api.Record { return api.Record{Name: name, Replies: r} }

// div is a witness with a number in it.
func div(n int) api.Witness {
	return one(record("", api.Reply{Yes: true, Cert: api.Cert{Lemmas: []api.Lemma{{Steps: []api.Step{{Div: n}}}}}}))
}

// rich is a witness in which something of everything stands.
func rich() api.Witness {
	return one(
		record("p", api.Reply{}, api.Reply{Yes: true, Cert: api.Cert{
			Lemmas: []api.Lemma{{Lits: []int{1, -2}, Steps: []api.Step{{Parts: []api.Part{{Line: 3, Times: 64}, {Line: -1, Times: 0}}, Div: 200}, {Div: 1}}}, {}},
			Refute: [][]int{{5}, {-64, 64}, {}},
		}}),
		record("q\x00é"), record("", api.Reply{Yes: true}))
}

var richBytes = []byte{
	6,         // three records
	2, 'p', 4, // p, two replies
	0,
	1, 4, // yes; two lemmas
	4, 2, 3, // lits 1 -2
	4, 4, 6, 0x80, 1, 1, 0, 0x90, 3, // steps: two; parts: 3 64 times, -1 0 times; div 200
	0, 2,
	0, 0, // a lemma of nothing
	6, 2, 10, 4, 0x7f, 0x80, 1, 0, // refute: (5) (-64 64) ()
	8, 'q', 0, 0xc3, 0xa9, 0,
	0, 2, 1, 0, 0,
}

func TestWrite(t *testing.T) { // P12.1
	for i, x := range []struct {
		w    api.Witness
		want []byte
	}{
		{one(record("p", api.Reply{})), []byte{2, 2, 0x70, 2, 0}}, {api.Witness{}, []byte{0}}, {one(), []byte{0}}, {rich(), richBytes},
		{one(record("p", api.Reply{Cert: api.Cert{Refute: [][]int{{1}}}})), []byte{2, 2, 0x70, 2, 0}}, // what isn't Yes has none
	} {
		b, err := pack.Write(x.w)
		if err != nil || !bytes.Equal(b, x.want) {
			t.Errorf("%d: %x %v", i, b, err)
		}
	}
}

func TestNumbers(t *testing.T) { // P12.1, P12.2
	for _, x := range []struct {
		n    int
		want []byte
	}{
		{0, []byte{0}}, {-1, []byte{1}}, {1, []byte{2}}, {-2, []byte{3}}, {63, []byte{0x7e}}, {-64, []byte{0x7f}}, {64, []byte{0x80, 1}}, {-65, []byte{0x81, 1}},
		{8191, []byte{0xfe, 0x7f}}, {8192, []byte{0x80, 0x80, 1}}, {1 << 30, []byte{0x80, 0x80, 0x80, 0x80, 8}},
		{math.MaxInt, []byte{0xfe, 0xff, 0xff, 0xff, 0xff, 0xff, 0xff, 0xff, 0xff, 1}}, {math.MinInt, []byte{0xff, 0xff, 0xff, 0xff, 0xff, 0xff, 0xff, 0xff, 0xff, 1}},
	} {
		b, err := pack.Write(div(x.n))
		want := append(append([]byte{2, 0, 2, 1, 2, 0, 2, 0}, x.want...), 0)
		if err != nil || !bytes.Equal(b, want) {
			t.Errorf("%d: %x %v", x.n, b, err)
		}
		w, err := pack.Read(b)
		if err != nil || w.Records[0].Replies[0].Cert.Lemmas[0].Steps[0].Div != x.n {
			t.Error(x.n, w, err)
		}
	}
}

func TestLength(t *testing.T) { // P12.1, P12.2, R1
	name := func(n int) api.Witness { return one(record(strings.Repeat("a", n))) }
	const fits = api.MaxBytes - 1 - 4 - 1 // a record, how long the name is, no replies
	b, err := pack.Write(name(fits))
	if err != nil || len(b) != api.MaxBytes {
		t.Error(len(b), err)
	}
	if w, err := pack.Read(b); err != nil || len(w.Records[0].Name) != fits {
		t.Error(err)
	}
	for i, w := range []api.Witness{name(fits + 1), name(fits + 2), name(fits + 3), name(2 * fits), one(record("", make([]api.Reply, api.MaxBytes)...)), one(make([]api.Record, 3<<20)...)} {
		if b, err := pack.Write(w); err != error(api.ErrLong) || len(b) != 0 {
			t.Error(i, len(b), err)
		}
	}
	if w, err := pack.Read(make([]byte, api.MaxBytes+1)); err != error(api.ErrLong) || len(w.Records) != 0 {
		t.Error(err)
	}
	if w, err := pack.Read(make([]byte, api.MaxBytes)); err != error(api.ErrMore) || len(w.Records) != 0 {
		t.Error(err)
	}
}

func TestReadErrors(t *testing.T) { // P12.2
	ff := []byte{0xff, 0xff, 0xff, 0xff, 0xff, 0xff, 0xff, 0xff, 0xff}
	for i, x := range []struct {
		b   []byte
		err error
	}{
		{nil, api.ErrForm}, {[]byte{0}, nil}, {[]byte{0, 0}, api.ErrMore}, {[]byte{0x80, 0}, api.ErrForm}, {[]byte{0x80}, api.ErrForm}, {[]byte{0x80, 0x80, 0}, api.ErrForm},
		{[]byte{1}, api.ErrForm}, {[]byte{3, 0, 0}, api.ErrForm}, // less than none
		{[]byte{2}, api.ErrForm}, {[]byte{2, 0}, api.ErrForm}, {[]byte{2, 0, 0}, nil}, {[]byte{2, 1, 0}, api.ErrForm}, {[]byte{2, 2, 0}, api.ErrForm}, {[]byte{2, 4, 'p', 0}, api.ErrForm}, {[]byte{4, 0, 0, 0}, api.ErrForm},
		{[]byte{2, 0, 2, 0}, nil}, {[]byte{2, 0, 2, 2}, api.ErrForm}, {[]byte{2, 0, 2, 0xff}, api.ErrForm}, {[]byte{2, 0, 2, 1}, api.ErrForm}, {[]byte{2, 0, 2, 1, 0, 0}, nil}, {[]byte{2, 0, 2, 1, 0, 0, 9}, api.ErrMore},
		{[]byte{2, 0, 2, 1, 0, 0x82, 0, 0}, api.ErrForm}, {[]byte{2, 0, 2, 1, 0, 2, 1}, api.ErrForm}, {[]byte{2, 0, 2, 1, 0, 2, 2, 0x80, 0}, api.ErrForm}, {[]byte{2, 0, 2, 1, 2, 0, 2, 1, 0, 0}, api.ErrForm},
		{append(bytes.Clone(ff), 1), api.ErrForm}, {append(bytes.Clone(ff), 0x7f), api.ErrForm},
		{append(append([]byte{2, 0, 2, 1, 2, 0, 2, 0}, ff...), 1, 0), nil}, {append(append([]byte{2, 0, 2, 1, 2, 0, 2, 0}, ff...), 2, 0), api.ErrForm}, {append(append([]byte{2, 0, 2, 1, 2, 0, 2, 0}, ff...), 0x81, 0, 0), api.ErrForm}, {append(append([]byte{2, 0, 2, 1, 2, 0, 2, 0}, ff...), 0x80, 1, 0), api.ErrForm},
		{append(append([]byte{2, 0}, ff...), 1), api.ErrForm}, {append([]byte{0xfe}, append(ff[1:], 1)...), api.ErrForm}, // more than there can be
		{richBytes, nil}, {append(bytes.Clone(richBytes), 0), api.ErrMore},
	} {
		w, err := pack.Read(x.b)
		if err != x.err || err != nil && !reflect.DeepEqual(w, api.Witness{}) {
			t.Errorf("%d: %x %v %v", i, x.b, w, err)
		}
	}
	for n := range richBytes {
		if _, err := pack.Read(richBytes[:n]); err != error(api.ErrForm) {
			t.Error(n, err)
		}
	}
}

// plain has nil for each list of no elements, and no Cert without Yes.
func plain(w api.Witness) api.Witness {
	var o api.Witness
	for _, r := range w.Records {
		n := api.Record{Name: r.Name}
		for _, p := range r.Replies {
			m := api.Reply{Yes: p.Yes}
			for _, l := range p.Cert.Lemmas {
				k := api.Lemma{Lits: append([]int(nil), l.Lits...)}
				for _, s := range l.Steps {
					k.Steps = append(k.Steps, api.Step{Parts: append([]api.Part(nil), s.Parts...), Div: s.Div})
				}
				m.Cert.Lemmas = append(m.Cert.Lemmas, k)
			}
			for _, c := range p.Cert.Refute {
				m.Cert.Refute = append(m.Cert.Refute, append([]int(nil), c...))
			}
			if !p.Yes {
				m.Cert = api.Cert{}
			}
			n.Replies = append(n.Replies, m)
		}
		o.Records = append(o.Records, n)
	}
	return o
}

func TestThereAndBack(t *testing.T) { // P12.4
	r := rand.New(rand.NewSource(15))
	var number = func() int { return (r.Intn(5) - 2) << r.Intn(60) }
	var clause = func() []int {
		var c []int
		for n := r.Intn(3); n > 0; n-- {
			c = append(c, number())
		}
		return c
	}
	for i := 0; i < 500; i++ {
		w := rich()
		for n := r.Intn(3); n > 0; n-- {
			p := api.Reply{Yes: r.Intn(3) > 0, Cert: api.Cert{Refute: [][]int{clause(), clause()}}}
			for k := r.Intn(3); k > 0; k-- {
				p.Cert.Lemmas = append(p.Cert.Lemmas, api.Lemma{Lits: clause(), Steps: []api.Step{{Parts: []api.Part{{Line: number(), Times: number()}}, Div: number()}}})
			}
			w.Records = append(w.Records, record(strings.Repeat("ab", r.Intn(80)), p, api.Reply{}))
		}
		b, err := pack.Write(w)
		if err != nil {
			t.Fatal(err)
		}
		got, err := pack.Read(b)
		if err != nil || !reflect.DeepEqual(plain(got), plain(w)) {
			t.Fatal(w, got, err)
		}
		for k := 0; k < 20; k++ { // bytes that are read are those that are written, whatever they are
			o := bytes.Clone(b)
			o[r.Intn(len(o))] = byte(r.Intn(256))
			if w, err := pack.Read(o); err == nil {
				if again, err := pack.Write(w); err != nil || !bytes.Equal(again, o) {
					t.Fatalf("%x %x %v", o, again, err)
				}
			}
		}
	}
}

func TestMemory(t *testing.T) { // P12.3, R2
	w, b := rich(), bytes.Clone(richBytes)
	got, _ := pack.Read(b)
	out, _ := pack.Write(w)
	for i := range b {
		b[i] = 0xee
	}
	out[0] = 9
	again, _ := pack.Write(w)
	if !reflect.DeepEqual(w, rich()) || !reflect.DeepEqual(plain(got), plain(rich())) || !bytes.Equal(again, richBytes) {
		t.Error("changed, or shared")
	}
}
