package pack

import "trammel/api"

// writer writes as long as there is room.
type writer struct {
	b    []byte
	full bool
}

// put writes one byte.
func (p *writer) put(b byte) {
	if len(p.b) == api.MaxBytes {
		p.full = true
		return
	}
	p.b = append(p.b, b)
}

// text writes a text's bytes.
func (p *writer) text(s string) {
	if len(s) > api.MaxBytes-len(p.b) {
		p.full = true
		return
	}
	p.b = append(p.b, s...)
}

// number writes a number, the sign as its lowest bit.
func (p *writer) number(x int) {
	n := uint64(x) << 1
	if x < 0 {
		n = ^n
	}
	for n > 0x7f {
		p.put(byte(n) | 0x80)
		n >>= 7
	}
	p.put(byte(n))
}

// several writes how many there are, and each, unless there is no room left.
func several[T any](p *writer, l []T, write func(T)) {
	p.number(len(l))
	for _, x := range l {
		if p.full {
			return
		}
		write(x)
	}
}

func (p *writer) reply(r api.Reply) {
	if !r.Yes {
		p.put(0)
		return
	}
	p.put(1)
	several(p, r.Cert.Lemmas, func(l api.Lemma) {
		several(p, l.Lits, p.number)
		several(p, l.Steps, p.step)
	})
	several(p, r.Cert.Refute, func(c []int) { several(p, c, p.number) })
}

func (p *writer) step(s api.Step) {
	several(p, s.Parts, func(t api.Part) {
		p.number(t.Line)
		p.number(t.Times)
	})
	p.number(s.Div)
}
