package exec

import "trammel/api"

// produce produces an assertion by variables.
func (r *rules) produce(a api.Assn, vars []api.Sym, p path, then func(path)) {
	r.each(a, vars, p, func(a api.Assn, p path) (path, bool) {
		switch a.Kind {
		case api.APure:
			f, ok := r.cond(a.C, vars)
			if !ok {
				return p, false
			}
			return r.know(p, f)
		case api.AAcc, api.APts:
			c, ok := r.cell(a, vars)
			if !ok {
				return p, false
			}
			if !c.valued {
				p, c.val = p.fresh()
			}
			return r.lay(p, api.Chunk{Addr: c.addr, Field: c.field, N: c.n, Val: c.val})
		}
		return p, true
	}, then)
}

// consume consumes one.
func (r *rules) consume(a api.Assn, vars []api.Sym, p path, then func(path)) {
	r.each(a, vars, p, func(a api.Assn, p path) (path, bool) {
		switch a.Kind {
		case api.APure:
			f, ok := r.cond(a.C, vars)
			return p, ok && r.must(p, f, api.FailPure)
		case api.AAcc, api.APts:
			c, ok := r.cell(a, vars)
			if !ok {
				return p, false
			}
			return r.find(p, c)
		}
		return p, true
	}, then)
}

// each does something with the assertions that an assertion is made of, the first Kid ahead of the second one, on each
// branch; what is done says whether the path goes on.
func (r *rules) each(a api.Assn, vars []api.Sym, p path, do func(api.Assn, path) (path, bool), then func(path)) {
	if !r.step() {
		return
	}
	switch a.Kind {
	case api.ASep:
		r.each(a.Kids[0], vars, p, do, func(p path) { r.each(a.Kids[1], vars, p, do, then) })
	case api.AIf:
		r.branch(p, a.C, vars,
			func(p path) { r.each(a.Kids[0], vars, p, do, then) },
			func(p path) { r.each(a.Kids[1], vars, p, do, then) })
	default:
		if q, ok := do(a, p); ok {
			then(q)
		}
	}
}

// cell is what an AAcc or APts is about.
func (r *rules) cell(a api.Assn, vars []api.Sym) (cell, bool) {
	c := cell{field: a.Field, n: a.N, valued: a.Kind == api.APts}
	ok := false
	if c.addr, ok = r.expr(a.E, vars); ok && c.valued {
		c.val, ok = r.expr(a.V, vars)
	}
	return c, ok
}
