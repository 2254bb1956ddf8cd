package pack

import "trammel/api"

// reader reads as long as the bytes are those of a witness.
type reader struct {
	b   []byte // what is left
	bad bool
}

// take reads one byte.
func (r *reader) take() byte {
	if r.bad || len(r.b) == 0 {
		r.bad = true
		return 0
	}
	b := r.b[0]
	r.b = r.b[1:]
	return b
}

// number reads a number. One beyond 64 bits, or with a last group of 0 that needn't be there, isn't written by anyone.
func (r *reader) number() int {
	var n uint64
	for shift := 0; ; shift += 7 {
		b := r.take()
		group := uint64(b & 0x7f)
		if shift > 0 && b == 0 || shift == 63 && b > 1 {
			r.bad = true
		}
		if r.bad {
			return 0
		}
		n |= group << shift
		if b < 0x80 {
			break
		}
	}
	if n&1 == 1 {
		return int(^(n >> 1))
	}
	return int(n >> 1)
}

// text reads so many bytes.
func (r *reader) text(n int) string {
	if r.bad || n < 0 || n > len(r.b) {
		r.bad = true
		return ""
	}
	s := string(r.b[:n])
	r.b = r.b[n:]
	return s
}

// each reads how many there are, and them. Each has a byte at least: so what is told can't be more than what is left.
func each[T any](r *reader, read func() T) []T {
	n := r.number()
	if n < 0 || n > len(r.b) {
		r.bad = true
	}
	var l []T
	for i := 0; i < n && !r.bad; i++ {
		l = append(l, read())
	}
	return l
}

func (r *reader) record() api.Record {
	name := r.text(r.number())
	return api.Record{Name: name, Replies: each(r, r.reply)}
}

func (r *reader) reply() api.Reply {
	switch r.take() {
	case 0:
		return api.Reply{}
	case 1:
		return api.Reply{Yes: true, Cert: r.cert()}
	}
	r.bad = true
	return api.Reply{}
}

func (r *reader) cert() api.Cert {
	lemmas := each(r, r.lemma)
	return api.Cert{Lemmas: lemmas, Refute: each(r, r.clause)}
}

func (r *reader) lemma() api.Lemma {
	lits := r.clause()
	return api.Lemma{Lits: lits, Steps: each(r, r.step)}
}

func (r *reader) clause() []int { return each(r, r.number) }

func (r *reader) step() api.Step {
	parts := each(r, r.part)
	return api.Step{Parts: parts, Div: r.number()}
}

func (r *reader) part() api.Part {
	line := r.number()
	return api.Part{Line: line, Times: r.number()}
}
