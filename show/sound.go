package show

import (
	"trammel/api"
	"trammel/scan"
)

// What belongs to a statement.
const (
	hasName = 1 << iota
	hasField
	hasCallee
	hasE
	hasV
	hasC
	hasA
	hasFields
	hasBody
	hasElse
)

// belongs tells that by the statement's kind.
var belongs = [...]int{
	0,                         // SSkip
	hasName | hasE,            // SSet
	hasName | hasE | hasField, // SGet
	hasE | hasField | hasV,    // SPut
	hasName | hasFields,       // SNew
	hasE | hasField,           // SFree
	hasC | hasBody | hasElse,  // SIf
	hasC | hasA | hasBody,     // SWhile
	hasC,                      // SAssert
	hasCallee,                 // SCall; its Name, Args and Ghosts may be there or not
}

// all tells whether each of them is so.
func all[T any](l []T, is func(T) bool) bool {
	for _, x := range l {
		if !is(x) {
			return false
		}
	}
	return true
}

func inBounds(n int) bool { return -api.MaxCoef <= n && n <= api.MaxCoef }

func soundProc(q api.Proc) bool {
	return scan.Name(q.Name) && all(q.Params, scan.Name) && all(q.Ghosts, scan.Name) &&
		soundAssn(q.Pre) && soundAssn(q.Post) && all(q.Body, soundStmt)
}

func soundExpr(e api.Expr) bool {
	kids := 0
	switch e.Kind {
	case api.ENum:
	case api.EVar:
		return scan.Name(e.Name) && e.N == 0 && len(e.Kids) == 0
	case api.EAdd, api.ESub:
		kids = 2
	case api.EMul:
		kids = 1
	default:
		return false
	}
	number := e.Kind == api.ENum || e.Kind == api.EMul
	return (e.N == 0 || number && inBounds(e.N)) && e.Name == "" && len(e.Kids) == kids && all(e.Kids, soundExpr)
}

func soundCond(c api.Cond) bool {
	exprs, kids := 0, 0
	switch c.Kind {
	case api.CTrue, api.CFalse:
	case api.CEq, api.CNe, api.CLt, api.CLe:
		exprs = 2
	case api.CNot:
		kids = 1
	case api.CAnd, api.COr:
		kids = 2
	default:
		return false
	}
	return len(c.E) == exprs && len(c.Kids) == kids && all(c.E, soundExpr) && all(c.Kids, soundCond)
}

func soundAssn(a api.Assn) bool {
	cond, share, kids := false, false, 0
	switch a.Kind {
	case api.AEmp:
	case api.APure:
		cond = true
	case api.AAcc, api.APts:
		share = true
	case api.ASep:
		kids = 2
	case api.AIf:
		cond, kids = true, 2
	default:
		return false
	}
	if len(a.Kids) != kids || !all(a.Kids, soundAssn) || !soundShare(a, share) {
		return false
	}
	return cond && soundCond(a.C) || !cond && noCond(a.C)
}

// soundShare tells whether the cell, how much of it, and its value are as they belong to a.
func soundShare(a api.Assn, belongs bool) bool {
	if !belongs {
		return noExpr(a.E) && noExpr(a.V) && a.Field == "" && a.N == 0
	}
	if a.Kind == api.APts && !soundExpr(a.V) || a.Kind == api.AAcc && !noExpr(a.V) {
		return false
	}
	return soundExpr(a.E) && scan.Name(a.Field) && 0 <= a.N && a.N <= api.MaxCoef
}

func soundStmt(s api.Stmt) bool {
	if s.Kind < 0 || s.Kind >= len(belongs) {
		return false
	}
	has := func(what int) bool { return belongs[s.Kind]&what != 0 }
	call := s.Kind == api.SCall
	return soundNames(s, has) &&
		fits(has(hasE), s.E, soundExpr, noExpr) && fits(has(hasV), s.V, soundExpr, noExpr) &&
		fits(has(hasC), s.C, soundCond, noCond) && fits(has(hasA), s.A, soundAssn, noAssn) &&
		fits(call, s.Args, soundExprs, none) && fits(call, s.Ghosts, soundExprs, none) &&
		fits(has(hasBody), s.Body, soundStmts, none) && fits(has(hasElse), s.Else, soundStmts, none)
}

// soundNames tells whether a statement's names are as they belong to it.
func soundNames(s api.Stmt, has func(what int) bool) bool {
	no := func(name string) bool { return name == "" }
	if s.Kind == api.SCall && s.Name != "" && !scan.Name(s.Name) || s.Kind != api.SCall && !fits(has(hasName), s.Name, scan.Name, no) {
		return false
	}
	return fits(has(hasField), s.Field, scan.Name, no) && fits(has(hasCallee), s.Callee, scan.Name, no) &&
		len(s.Fields) > 0 == has(hasFields) && all(s.Fields, scan.Name)
}

// fits tells whether x is sound, if it belongs there, or else is nothing.
func fits[T any](belongs bool, x T, sound, nothing func(T) bool) bool {
	if belongs {
		return sound(x)
	}
	return nothing(x)
}

func soundExprs(l []api.Expr) bool { return all(l, soundExpr) }

func soundStmts(l []api.Stmt) bool { return all(l, soundStmt) }

func none[T any](l []T) bool { return len(l) == 0 }

func noExpr(e api.Expr) bool {
	return e.Kind == 0 && e.N == 0 && e.Name == "" && len(e.Kids) == 0
}

func noCond(c api.Cond) bool { return c.Kind == 0 && len(c.E) == 0 && len(c.Kids) == 0 }

func noAssn(a api.Assn) bool { return a.Kind == api.AEmp && soundAssn(a) }
