package parse

import "trammel/api"

func (p *parser) expr() api.Expr {
	e := p.prod()
	for {
		switch p.may("+", "-") {
		case "+":
			e = api.Expr{Kind: api.EAdd, Kids: []api.Expr{e, p.prod()}}
		case "-":
			e = api.Expr{Kind: api.ESub, Kids: []api.Expr{e, p.prod()}}
		default:
			return e
		}
	}
}

// exprs takes expressions up to where one of these comes: none, if that is at once.
func (p *parser) exprs(ends ...string) []api.Expr {
	var l []api.Expr
	if p.is(ends...) {
		return l
	}
	l = append(l, p.expr())
	for p.may(",") != "" {
		l = append(l, p.expr())
	}
	return l
}

func (p *parser) prod() api.Expr {
	if p.may("-") != "" {
		return p.times(-1)
	}
	switch {
	case p.kind() == api.TkNumber:
		return p.times(1)
	case p.kind() == api.TkName:
		return api.Expr{Kind: api.EVar, Name: p.name()}
	}
	var e api.Expr
	p.within("(", ")", func() { e = p.expr() })
	return e
}

// times takes a number, and, if it is told so, what it is that many times of.
func (p *parser) times(sign int) api.Expr {
	if p.kind() != api.TkNumber || p.text(1) != "*" {
		return api.Expr{Kind: api.ENum, N: sign * p.number()}
	}
	p.enter()
	n := p.number()
	p.must("*")
	e := api.Expr{Kind: api.EMul, N: sign * n, Kids: []api.Expr{p.prod()}}
	p.nest--
	return e
}

func (p *parser) cond() api.Cond {
	c := p.all()
	for p.may("||") != "" {
		c = api.Cond{Kind: api.COr, Kids: []api.Cond{c, p.all()}}
	}
	return c
}

func (p *parser) all() api.Cond {
	c := p.one()
	for p.may("&&") != "" {
		c = api.Cond{Kind: api.CAnd, Kids: []api.Cond{c, p.one()}}
	}
	return c
}

func (p *parser) one() api.Cond {
	var c api.Cond
	switch p.text(0) {
	case "!":
		p.enter()
		p.must("!")
		c = api.Cond{Kind: api.CNot, Kids: []api.Cond{p.one()}}
		p.nest--
	case "[":
		p.within("[", "]", func() { c = p.cond() })
	case "true":
		p.must("true")
	case "false":
		p.must("false")
		c.Kind = api.CFalse
	default:
		c = p.compare()
	}
	return c
}

func (p *parser) compare() api.Cond {
	var c api.Cond
	a := p.expr()
	switch p.must("==", "!=", "<", "<=") {
	case "==":
		c.Kind = api.CEq
	case "!=":
		c.Kind = api.CNe
	case "<":
		c.Kind = api.CLt
	case "<=":
		c.Kind = api.CLe
	}
	c.E = []api.Expr{a, p.expr()}
	return c
}
