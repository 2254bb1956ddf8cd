package exec

import "trammel/api"

// produce produces an assertion by variables.
func (r *rules) produce(a api.Assn, vars []api.Sym, p path, then func(path)) {
	if !r.step() {
		return
	}
	ok := true
	switch a.Kind {
	case api.APure:
		var f api.Form
		if f, ok = r.cond(a.C, vars); ok {
			p, ok = r.know(p, f)
		}
	case api.AAcc, api.APts:
		var c cell
		if c, ok = r.cell(a, vars); ok {
			if !c.valued {
				p, c.val = p.fresh()
			}
			p, ok = r.lay(p, api.Chunk{Addr: c.addr, Field: c.field, N: c.n, Val: c.val})
		}
	case api.ASep:
		r.produce(a.Kids[0], vars, p, func(p path) { r.produce(a.Kids[1], vars, p, then) })
		return
	case api.AIf:
		r.branch(p, a.C, vars,
			func(p path) { r.produce(a.Kids[0], vars, p, then) },
			func(p path) { r.produce(a.Kids[1], vars, p, then) })
		return
	}
	if ok {
		then(p)
	}
}

// consume consumes one.
func (r *rules) consume(a api.Assn, vars []api.Sym, p path, then func(path)) {
	if !r.step() {
		return
	}
	ok := true
	switch a.Kind {
	case api.APure:
		var f api.Form
		if f, ok = r.cond(a.C, vars); ok {
			ok = r.must(p, f, api.FailPure)
		}
	case api.AAcc, api.APts:
		var c cell
		if c, ok = r.cell(a, vars); ok {
			p, ok = r.find(p, c)
		}
	case api.ASep:
		r.consume(a.Kids[0], vars, p, func(p path) { r.consume(a.Kids[1], vars, p, then) })
		return
	case api.AIf:
		r.branch(p, a.C, vars,
			func(p path) { r.consume(a.Kids[0], vars, p, then) },
			func(p path) { r.consume(a.Kids[1], vars, p, then) })
		return
	}
	if ok {
		then(p)
	}
}

// cell is what an AAcc or APts is about.
func (r *rules) cell(a api.Assn, vars []api.Sym) (cell, bool) {
	c := cell{field: a.Field, n: a.N, valued: a.Kind == api.APts}
	ok := false
	if c.addr, ok = r.expr(a.E, vars); ok && c.valued {
		c.val, ok = r.expr(a.V, vars)
	}
	return c, ok
}
