package names

import (
	"slices"

	"trammel/api"
)

// each makes a new list of what is made of each.
func each[T any](l []T, made func(T) T) []T {
	var n []T
	for _, x := range l {
		n = append(n, made(x))
	}
	return n
}

// proc is a procedure in memory of its own, as are those below.
func proc(q api.Proc) api.Proc {
	return api.Proc{
		Name: q.Name, Params: slices.Clone(q.Params), Ghosts: slices.Clone(q.Ghosts),
		Pre: assn(q.Pre), Post: assn(q.Post), Body: each(q.Body, stmt),
	}
}

func stmt(s api.Stmt) api.Stmt {
	s.E, s.V, s.C, s.A = expr(s.E), expr(s.V), cond(s.C), assn(s.A)
	s.Args, s.Ghosts, s.Fields = each(s.Args, expr), each(s.Ghosts, expr), slices.Clone(s.Fields)
	s.Body, s.Else = each(s.Body, stmt), each(s.Else, stmt)
	return s
}

func assn(a api.Assn) api.Assn {
	a.C, a.E, a.V, a.Kids = cond(a.C), expr(a.E), expr(a.V), each(a.Kids, assn)
	return a
}

func cond(c api.Cond) api.Cond {
	c.E, c.Kids = each(c.E, expr), each(c.Kids, cond)
	return c
}

func expr(e api.Expr) api.Expr {
	e.Kids = each(e.Kids, expr)
	return e
}
