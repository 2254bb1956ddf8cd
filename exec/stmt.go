package exec

import (
	"slices"

	"trammel/api"
	"trammel/names"
)

// result is the variable that a procedure gives back.
const result = "res"

// proc goes through a procedure.
func (r *rules) proc(q api.Proc) {
	p := path{}.forget(slices.Concat(q.Params, q.Ghosts))
	r.produce(q.Pre, p.vars, p, func(p path) {
		r.stmts(q.Body, p, func(p path) { r.consume(q.Post, p.vars, p, r.endEmpty) })
	})
}

// stmts does statements.
func (r *rules) stmts(l []api.Stmt, p path, then func(path)) {
	if len(l) == 0 {
		then(p)
		return
	}
	r.stmt(l[0], p, func(p path) { r.stmts(l[1:], p, then) })
}

// stmt does one.
func (r *rules) stmt(s api.Stmt, p path, then func(path)) {
	if !r.step() {
		return
	}
	switch s.Kind {
	case api.SIf:
		r.branch(p, s.C, p.vars,
			func(p path) { r.stmts(s.Body, p, then) },
			func(p path) { r.stmts(s.Else, p, then) })
	case api.SWhile:
		r.loop(s, p, then)
	case api.SCall:
		r.call(s, p, then)
	default:
		if q, ok := r.simple(s, p); ok {
			then(q)
		}
	}
}

// simple does a statement that doesn't branch; not so, if the path ends.
func (r *rules) simple(s api.Stmt, p path) (path, bool) {
	switch s.Kind {
	case api.SSet:
		l, ok := r.expr(s.E, p.vars)
		return p.set(s.Name, l), ok
	case api.SGet:
		return r.get(s, p)
	case api.SPut, api.SFree:
		return r.write(s, p)
	case api.SNew:
		return r.allocate(s, p)
	case api.SAssert:
		f, ok := r.cond(s.C, p.vars)
		return p, ok && r.must(p, f, api.FailAssert)
	}
	return p, true
}

func (r *rules) get(s api.Stmt, p path) (path, bool) {
	addr, ok := r.expr(s.E, p.vars)
	if !ok {
		return p, false
	}
	for _, c := range p.chunks {
		if c.Field != s.Field {
			continue
		}
		yes, answered := r.same(p, c.Addr, addr)
		if !answered {
			return p, false
		}
		if yes {
			return p.set(s.Name, c.Val), true
		}
	}
	r.dead(p, api.FailMissing)
	return p, false
}

// write takes the whole of a cell, and, of an SPut, lays it down again.
func (r *rules) write(s api.Stmt, p path) (path, bool) {
	addr, ok := r.expr(s.E, p.vars)
	if !ok {
		return p, false
	}
	val, ok := r.expr(s.V, p.vars)
	if !ok {
		return p, false
	}
	p, ok = r.find(p, cell{addr: addr, field: s.Field, n: api.Whole})
	if ok && s.Kind == api.SPut {
		return r.lay(p, api.Chunk{Addr: addr, Field: s.Field, N: api.Whole, Val: val})
	}
	return p, ok
}

func (r *rules) allocate(s api.Stmt, p path) (path, bool) {
	p, addr := p.fresh()
	p = p.set(s.Name, addr)
	for i, f := range s.Fields {
		if slices.Contains(s.Fields[:i], f) {
			continue
		}
		q, ok := r.lay(p, api.Chunk{Addr: addr, Field: f, N: api.Whole})
		if !ok {
			return p, false
		}
		p = q
	}
	return p, true
}

// loop goes through the body once, with whatever values, and then on behind it, likewise.
func (r *rules) loop(s api.Stmt, p path, then func(path)) {
	assigned := names.Assigned(s.Body)
	r.consume(s.A, p.vars, p, func(p path) {
		in := p.forget(assigned)
		in.chunks = nil
		r.assume(s, true, in, func(p path) {
			r.stmts(s.Body, p, func(p path) { r.consume(s.A, p.vars, p, r.endEmpty) })
		})
		r.assume(s, false, p.forget(assigned), then)
	})
}

// assume produces a loop's invariant, and knows its condition, or that it isn't so.
func (r *rules) assume(s api.Stmt, so bool, p path, then func(path)) {
	r.produce(s.A, p.vars, p, func(p path) {
		f, ok := r.cond(s.C, p.vars)
		if !ok {
			return
		}
		if !so {
			f = not(f)
		}
		if q, ok := r.know(p, f); ok {
			then(q)
		}
	})
}

func (r *rules) call(s api.Stmt, p path, then func(path)) {
	var vars []api.Sym
	i := slices.IndexFunc(r.procs, func(q api.Proc) bool { return q.Name == s.Callee })
	callee := r.procs[i]
	args := slices.Concat(s.Args, s.Ghosts)
	for k, n := range slices.Concat(callee.Params, callee.Ghosts) {
		l, ok := r.expr(args[k], p.vars)
		if !ok {
			return
		}
		vars = append(vars, api.Sym{Name: n, L: l})
	}
	r.consume(callee.Pre, vars, p, func(p path) {
		p, res := p.fresh()
		r.produce(callee.Post, behind(vars, api.Sym{Name: result, L: res}), p, func(p path) {
			if s.Name != "" {
				p = p.set(s.Name, res)
			}
			then(p)
		})
	})
}
