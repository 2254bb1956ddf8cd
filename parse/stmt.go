package parse

import "trammel/api"

func (p *parser) block() []api.Stmt {
	var l []api.Stmt
	p.within("{", "}", func() {
		for p.err == nil && !p.is("}") {
			l = append(l, p.stmt())
		}
	})
	return l
}

func (p *parser) stmt() api.Stmt {
	switch p.text(0) {
	case "if":
		return p.branch()
	case "while":
		return p.loop()
	}
	s := p.simple()
	p.must(";")
	return s
}

func (p *parser) branch() api.Stmt {
	s := api.Stmt{Kind: api.SIf}
	p.must("if")
	s.C = p.cond()
	s.Body = p.block()
	p.must("else")
	s.Else = p.block()
	return s
}

func (p *parser) loop() api.Stmt {
	s := api.Stmt{Kind: api.SWhile}
	p.must("while")
	s.C = p.cond()
	p.must("invariant")
	s.A = p.assn()
	s.Body = p.block()
	return s
}

// simple takes a statement up to its ";".
func (p *parser) simple() api.Stmt {
	var s api.Stmt
	switch p.text(0) {
	case "put":
		p.must("put")
		s.Kind = api.SPut
		p.cell(&s)
		p.must(":=")
		s.V = p.expr()
	case "free":
		p.must("free")
		s.Kind = api.SFree
		p.cell(&s)
	case "assert":
		p.must("assert")
		s.Kind = api.SAssert
		s.C = p.cond()
	case "call":
		p.call(&s)
	case "skip":
		p.must("skip")
	default:
		s.Name = p.name()
		p.must(":=")
		p.what(&s)
	}
	return s
}

// what takes what a name is set to.
func (p *parser) what(s *api.Stmt) {
	switch p.text(0) {
	case "get":
		p.must("get")
		s.Kind = api.SGet
		p.cell(s)
	case "new":
		p.must("new")
		s.Kind = api.SNew
		p.must("(")
		s.Fields = p.names()
		p.must(")")
	case "call":
		p.call(s)
	default:
		s.Kind = api.SSet
		s.E = p.expr()
	}
}

// cell takes an address and a field.
func (p *parser) cell(s *api.Stmt) {
	s.E = p.expr()
	p.must(".")
	s.Field = p.name()
}

func (p *parser) call(s *api.Stmt) {
	p.must("call")
	s.Kind = api.SCall
	s.Callee = p.name()
	p.must("(")
	s.Args = p.exprs(";")
	p.must(";")
	s.Ghosts = p.exprs(")")
	p.must(")")
}
