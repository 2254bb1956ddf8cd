package show

import "trammel/api"

// Each of these tells whether the depth is above most. It goes no deeper than that, however deep the thing is.

func deepExpr(e api.Expr, most int) bool {
	return most == 0 || some(e.Kids, most-1, deepExpr)
}

func deepCond(c api.Cond, most int) bool {
	return most == 0 || some(c.E, most-1, deepExpr) || some(c.Kids, most-1, deepCond)
}

func deepAssn(a api.Assn, most int) bool {
	return most == 0 || deepCond(a.C, most-1) || deepExpr(a.E, most-1) || deepExpr(a.V, most-1) || some(a.Kids, most-1, deepAssn)
}

func deepStmt(s api.Stmt, most int) bool {
	return most == 0 || deepExpr(s.E, most-1) || deepExpr(s.V, most-1) || deepCond(s.C, most-1) || deepAssn(s.A, most-1) ||
		some(s.Args, most-1, deepExpr) || some(s.Ghosts, most-1, deepExpr) || some(s.Body, most-1, deepStmt) || some(s.Else, most-1, deepStmt)
}

// some tells whether one of them is deeper.
func some[T any](l []T, most int, deep func(T, int) bool) bool {
	for _, x := range l {
		if deep(x, most) {
			return true
		}
	}
	return false
}
