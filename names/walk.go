package names

import "trammel/api"

// every asks ok of all statements, from the front, one ahead of those within it; it stops at the first no.
func every(l []api.Stmt, ok func(api.Stmt) bool) bool {
	for _, s := range l {
		if !ok(s) || !every(s.Body, ok) || !every(s.Else, ok) {
			return false
		}
	}
	return true
}

// read tells whether ok says yes to each variable that a statement itself reads.
func read(s api.Stmt, ok func(string) bool) bool {
	return inExpr(s.E, ok) && inExpr(s.V, ok) && inCond(s.C, ok) && inExprs(s.Args, ok)
}

// inExpr, and those below, tell whether ok says yes to each variable that stands there.
func inExpr(e api.Expr, ok func(string) bool) bool {
	return (e.Kind != api.EVar || ok(e.Name)) && inExprs(e.Kids, ok)
}

func inExprs(l []api.Expr, ok func(string) bool) bool {
	for _, e := range l {
		if !inExpr(e, ok) {
			return false
		}
	}
	return true
}

func inCond(c api.Cond, ok func(string) bool) bool {
	for _, k := range c.Kids {
		if !inCond(k, ok) {
			return false
		}
	}
	return inExprs(c.E, ok)
}

func inAssn(a api.Assn, ok func(string) bool) bool {
	for _, k := range a.Kids {
		if !inAssn(k, ok) {
			return false
		}
	}
	return inCond(a.C, ok) && inExpr(a.E, ok) && inExpr(a.V, ok)
}
