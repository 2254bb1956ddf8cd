package parse

import "trammel/api"

func (p *parser) assn() api.Assn {
	a := p.item()
	for p.may("&") != "" {
		a = api.Assn{Kind: api.ASep, Kids: []api.Assn{a, p.item()}}
	}
	return a
}

func (p *parser) item() api.Assn {
	var a api.Assn
	switch p.text(0) {
	case "[":
		a.Kind = api.APure
		p.within("[", "]", func() { a.C = p.cond() })
	case "acc":
		p.must("acc")
		p.share(&a)
		a.Kind = api.AAcc
		p.must(")")
	case "pts":
		p.must("pts")
		p.share(&a)
		a.Kind = api.APts
		p.must(",")
		a.V = p.expr()
		p.must(")")
	case "if":
		p.must("if")
		a.Kind = api.AIf
		a.C = p.cond()
		then := p.braced()
		p.must("else")
		a.Kids = []api.Assn{then, p.braced()}
	case "(":
		p.within("(", ")", func() { a = p.assn() })
	default:
		p.must("emp")
	}
	return a
}

// share takes the cell, and how much of it, behind acc or pts.
func (p *parser) share(a *api.Assn) {
	p.must("(")
	a.E = p.expr()
	p.must(".")
	a.Field = p.name()
	p.must(",")
	a.N = p.number()
}

func (p *parser) braced() api.Assn {
	var a api.Assn
	p.within("{", "}", func() { a = p.assn() })
	return a
}
