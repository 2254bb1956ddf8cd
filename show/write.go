package show

import (
	"strconv"

	"trammel/api"
)

// writer writes tokens with a space between two, as long as there is room.
type writer struct{ b []byte }

func (w *writer) put(tokens ...string) {
	for _, t := range tokens {
		if len(w.b) > api.MaxSource {
			return
		}
		if len(w.b) > 0 {
			w.b = append(w.b, ' ')
		}
		w.b = append(w.b, t...)
	}
}

func (w *writer) word(t string) { w.put(t) }

func (w *writer) number(n int) {
	if n < 0 {
		w.put("-")
		n = -n
	}
	w.put(strconv.Itoa(n))
}

// list writes each of a list, with a token between two, if it isn't empty.
func list[T any](w *writer, l []T, between string, write func(T)) {
	for i, x := range l {
		if i > 0 && between != "" {
			w.put(between)
		}
		write(x)
	}
}

// within writes a thing, in brackets, if they must be.
func within[T any](w *writer, must bool, open, shut string, x T, write func(T)) {
	if must {
		w.put(open)
	}
	write(x)
	if must {
		w.put(shut)
	}
}

func (w *writer) proc(q api.Proc) {
	w.put("proc", q.Name, "(")
	list(w, q.Params, ",", w.word)
	w.put(";")
	list(w, q.Ghosts, ",", w.word)
	w.put(")", "requires")
	w.assn(q.Pre)
	w.put("ensures")
	w.assn(q.Post)
	w.block(q.Body)
}

func (w *writer) block(l []api.Stmt) {
	w.put("{")
	list(w, l, "", w.stmt)
	w.put("}")
}

func (w *writer) stmt(s api.Stmt) {
	switch s.Kind {
	case api.SIf:
		w.put("if")
		w.cond(s.C)
		w.block(s.Body)
		w.put("else")
		w.block(s.Else)
		return
	case api.SWhile:
		w.put("while")
		w.cond(s.C)
		w.put("invariant")
		w.assn(s.A)
		w.block(s.Body)
		return
	}
	if s.Name != "" {
		w.put(s.Name, ":=")
	}
	w.simple(s)
	w.put(";")
}

// simple writes a statement without blocks, behind its Name, up to its ";".
func (w *writer) simple(s api.Stmt) {
	switch s.Kind {
	case api.SSkip:
		w.put("skip")
	case api.SSet:
		w.expr(s.E)
	case api.SGet:
		w.cell("get", s)
	case api.SPut:
		w.cell("put", s)
		w.put(":=")
		w.expr(s.V)
	case api.SNew:
		w.put("new", "(")
		list(w, s.Fields, ",", w.word)
		w.put(")")
	case api.SFree:
		w.cell("free", s)
	case api.SAssert:
		w.put("assert")
		w.cond(s.C)
	case api.SCall:
		w.put("call", s.Callee, "(")
		list(w, s.Args, ",", w.expr)
		w.put(";")
		list(w, s.Ghosts, ",", w.expr)
		w.put(")")
	}
}

func (w *writer) cell(key string, s api.Stmt) {
	w.put(key)
	w.expr(s.E)
	w.put(".", s.Field)
}

func (w *writer) expr(e api.Expr) {
	row := func(e api.Expr) bool { return e.Kind == api.EAdd || e.Kind == api.ESub }
	switch e.Kind {
	case api.ENum:
		w.number(e.N)
	case api.EVar:
		w.put(e.Name)
	case api.EAdd, api.ESub:
		w.expr(e.Kids[0])
		w.put([]string{"+", "-"}[e.Kind-api.EAdd])
		within(w, row(e.Kids[1]), "(", ")", e.Kids[1], w.expr)
	case api.EMul:
		w.number(e.N)
		w.put("*")
		within(w, row(e.Kids[0]), "(", ")", e.Kids[0], w.expr)
	}
}

func (w *writer) cond(c api.Cond) {
	or := func(c api.Cond) bool { return c.Kind == api.COr }
	row := func(c api.Cond) bool { return c.Kind == api.COr || c.Kind == api.CAnd }
	switch c.Kind {
	case api.CTrue:
		w.put("true")
	case api.CFalse:
		w.put("false")
	case api.CEq, api.CNe, api.CLt, api.CLe:
		w.expr(c.E[0])
		w.put([]string{"==", "!=", "<", "<="}[c.Kind-api.CEq])
		w.expr(c.E[1])
	case api.CNot:
		w.put("!")
		within(w, row(c.Kids[0]), "[", "]", c.Kids[0], w.cond)
	case api.CAnd:
		within(w, or(c.Kids[0]), "[", "]", c.Kids[0], w.cond)
		w.put("&&")
		within(w, row(c.Kids[1]), "[", "]", c.Kids[1], w.cond)
	case api.COr:
		w.cond(c.Kids[0])
		w.put("||")
		within(w, or(c.Kids[1]), "[", "]", c.Kids[1], w.cond)
	}
}

func (w *writer) assn(a api.Assn) {
	switch a.Kind {
	case api.AEmp:
		w.put("emp")
	case api.APure:
		within(w, true, "[", "]", a.C, w.cond)
	case api.AAcc:
		w.share("acc", a)
		w.put(")")
	case api.APts:
		w.share("pts", a)
		w.put(",")
		w.expr(a.V)
		w.put(")")
	case api.ASep:
		w.assn(a.Kids[0])
		w.put("&")
		within(w, a.Kids[1].Kind == api.ASep, "(", ")", a.Kids[1], w.assn)
	case api.AIf:
		w.put("if")
		w.cond(a.C)
		within(w, true, "{", "}", a.Kids[0], w.assn)
		w.put("else")
		within(w, true, "{", "}", a.Kids[1], w.assn)
	}
}

// share writes acc or pts up to how much it is.
func (w *writer) share(key string, a api.Assn) {
	w.put(key, "(")
	w.expr(a.E)
	w.put(".", a.Field, ",")
	w.number(a.N)
}
