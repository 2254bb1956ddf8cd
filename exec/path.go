package exec

import (
	"slices"

	"trammel/api"
	"trammel/chunk"
)

// path is where the rules are. It is handed on by value, and its lists are never written into: so each branch goes on
// from what was there.
type path struct {
	vars   []api.Sym
	known  []api.Form
	chunks []api.Chunk
	count  int // of unknowns
}

// behind is a list with something behind it, in memory of its own.
func behind[T any](l []T, x ...T) []T { return slices.Concat(l, x) }

// fresh is a new unknown.
func (p path) fresh() (path, api.Lin) {
	l := api.Lin{T: []api.Mono{{V: p.count, K: 1}}}
	p.count++
	return p, l
}

// set sets a variable.
func (p path) set(name string, l api.Lin) path {
	vars := slices.DeleteFunc(slices.Clone(p.vars), func(s api.Sym) bool { return s.Name == name })
	p.vars = append(vars, api.Sym{Name: name, L: l})
	return p
}

// forget makes new unknowns of some names.
func (p path) forget(names []string) path {
	for _, n := range names {
		q, l := p.fresh()
		p = q.set(n, l)
	}
	return p
}

// rules are what is gone through, and what came of it so far.
type rules struct {
	procs  []api.Proc
	answer func(api.Query) (yes, there bool)
	report api.Report
	steps  int
	over   bool // nothing more is done
}

// fail ends all, with a failure; it answers false.
func (r *rules) fail(code int) bool {
	if !r.over {
		r.over, r.report.Fail = true, code
	}
	return false
}

// step begins a statement, or an assertion; not so, if nothing more is done.
func (r *rules) step() bool {
	if r.over {
		return false
	}
	if r.steps == api.MaxSteps {
		return r.fail(api.FailFar)
	}
	r.steps++
	return true
}

// ask asks whether a goal follows on a path; it isn't answered, if nothing more is done.
func (r *rules) ask(p path, goal api.Form) (yes, answered bool) {
	if r.over {
		return false, false
	}
	if len(r.report.Queries) == api.MaxQueries {
		return false, r.fail(api.FailFar)
	}
	q := api.Query{Known: p.known, Goal: goal}
	r.report.Queries = append(r.report.Queries, query(q))
	yes, there := r.answer(q)
	if !there {
		r.over, r.report.Done = true, false
	}
	return yes && there, there
}

// same asks whether two forms are the same.
func (r *rules) same(p path, a, b api.Lin) (yes, answered bool) {
	f, err := chunk.Same(a, b)
	if err != nil {
		return false, r.fail(api.FailFar)
	}
	return r.ask(p, f)
}

// must asks whether a goal follows; if it doesn't, that is a failure.
func (r *rules) must(p path, goal api.Form, code int) bool {
	yes, answered := r.ask(p, goal)
	if answered && !yes {
		return r.fail(code)
	}
	return yes
}

// dead ends a path that can't be, or else all.
func (r *rules) dead(p path, code int) { r.must(p, api.Form{Kind: api.FFalse}, code) }

// know knows a formula; not so, if nothing more is done.
func (r *rules) know(p path, f api.Form) (path, bool) {
	if r.over || len(p.known) == api.MaxKnown {
		return p, r.fail(api.FailFar)
	}
	p.known = behind(p.known, f)
	return p, true
}

// lay lays down a chunk.
func (r *rules) lay(p path, c api.Chunk) (path, bool) {
	facts, err := chunk.Facts(p.chunks, c)
	if err != nil {
		return p, r.fail(api.FailFar)
	}
	for _, f := range facts {
		q, ok := r.know(p, f)
		if !ok {
			return p, false
		}
		p = q
	}
	if len(p.chunks) == api.MaxChunks {
		return p, r.fail(api.FailFar)
	}
	p.chunks = behind(p.chunks, c)
	return p, true
}

// cell is what is looked for: n of a cell, and its value, if that is asked for.
type cell struct {
	addr   api.Lin
	field  string
	n      int
	valued bool
	val    api.Lin
}

// find takes what is looked for; not so, if the path ends.
func (r *rules) find(p path, c cell) (path, bool) {
	first, at := true, 0
	for _, o := range p.chunks {
		if c.n == 0 {
			break
		}
		yes := false
		if o.Field == c.field {
			var answered bool
			if yes, answered = r.same(p, o.Addr, c.addr); !answered {
				return p, false
			}
		}
		if !yes {
			at++
			continue
		}
		if first && c.valued && !r.valued(p, o.Val, c.val) {
			return p, false
		}
		first = false
		part := min(o.N, c.n)
		rest, err := chunk.Take(p.chunks, at, part)
		if err != nil {
			return p, r.fail(api.FailFar)
		}
		if part < o.N {
			at++
		}
		p.chunks = rest
		c.n -= part
	}
	if c.n > 0 {
		r.dead(p, api.FailMissing)
		return p, false
	}
	return p, true
}

// valued asks whether a cell has the value that it should.
func (r *rules) valued(p path, is, should api.Lin) bool {
	f, err := chunk.Same(is, should)
	if err != nil {
		return r.fail(api.FailFar)
	}
	return r.must(p, f, api.FailValue)
}

// branch goes on twice.
func (r *rules) branch(p path, c api.Cond, vars []api.Sym, then, otherwise func(path)) {
	f, ok := r.cond(c, vars)
	if !ok {
		return
	}
	if q, ok := r.know(p, f); ok {
		then(q)
	}
	if q, ok := r.know(p, not(f)); ok {
		otherwise(q)
	}
}

// cond is a condition's formula.
func (r *rules) cond(c api.Cond, vars []api.Sym) (api.Form, bool) {
	f, err := chunk.Cond(c, vars)
	if err != nil {
		return api.Form{}, r.fail(api.FailFar)
	}
	return f, true
}

// expr is an expression's form.
func (r *rules) expr(e api.Expr, vars []api.Sym) (api.Lin, bool) {
	l, err := chunk.Expr(e, vars)
	if err != nil {
		return api.Lin{}, r.fail(api.FailFar)
	}
	return l, true
}

// endEmpty ends a path on which no chunks may be left.
func (r *rules) endEmpty(p path) {
	if len(p.chunks) > 0 {
		r.dead(p, api.FailLeak)
	}
}
