package run

import (
	"cmp"
	"slices"
	"strings"

	"trammel/api"
	"trammel/heap"
	"trammel/holds"
)

// goOn is no end yet.
const goOn = 0

// result is the variable that a procedure gives back.
const result = "res"

// frame is a procedure that runs: its variables, and what is to be done, the innermost block last.
type frame struct {
	vars []api.Var
	todo [][]api.Stmt
	name string // what its result is for
}

// machine keeps its own stack: calls go as deep as there is fuel.
type machine struct {
	procs  []api.Proc
	places map[string]int
	frames []frame
	heap   []api.Cell
	fuel   int
	res    int // once it has come to its end
}

func begin(p api.Program, h []api.Cell, fuel int) *machine {
	m := &machine{procs: p.Procs, places: map[string]int{}, heap: slices.Clone(h), fuel: fuel}
	for i, q := range p.Procs {
		m.places[q.Name] = i
	}
	return m
}

// enter begins to run a procedure.
func (m *machine) enter(q api.Proc, args []int, name string) {
	f := frame{name: name, todo: [][]api.Stmt{q.Body}}
	for i, n := range q.Params {
		f.vars = append(f.vars, api.Var{Name: n, Val: args[i]})
	}
	m.frames = append(m.frames, f)
}

// top is what runs now.
func (m *machine) top() *frame { return &m.frames[len(m.frames)-1] }

// run goes on to an end.
func (m *machine) run() int {
	for len(m.frames) > 0 {
		f := m.top()
		if len(f.todo) == 0 {
			m.leave()
			continue
		}
		last := len(f.todo) - 1
		if len(f.todo[last]) == 0 {
			f.todo = f.todo[:last]
			continue
		}
		if m.fuel < 1 {
			return api.RunOut
		}
		m.fuel--
		s := f.todo[last][0]
		if s.Kind != api.SWhile {
			f.todo[last] = f.todo[last][1:]
		}
		if end := m.do(s); end != goOn {
			return end
		}
	}
	return api.RunDone
}

// leave ends a procedure, and gives its result to who called it.
func (m *machine) leave() {
	f := m.top()
	res, _ := holds.Expr(api.Expr{Kind: api.EVar, Name: result}, f.vars)
	name := f.name
	m.frames = m.frames[:len(m.frames)-1]
	if len(m.frames) == 0 {
		m.res = res
	} else if name != "" {
		m.set(name, res)
	}
}

// set sets a variable.
func (m *machine) set(name string, val int) {
	f := m.top()
	for i := range f.vars {
		if f.vars[i].Name == name {
			f.vars[i].Val = val
			return
		}
	}
	f.vars = append(f.vars, api.Var{Name: name, Val: val})
}

// do does a statement.
func (m *machine) do(s api.Stmt) int {
	switch s.Kind {
	case api.SSet:
		return m.assign(s)
	case api.SGet, api.SPut, api.SFree:
		return m.access(s)
	case api.SNew:
		return m.allocate(s)
	case api.SIf, api.SWhile, api.SAssert:
		return m.ask(s)
	case api.SCall:
		return m.call(s)
	}
	return goOn
}

func (m *machine) assign(s api.Stmt) int {
	n, err := holds.Expr(s.E, m.top().vars)
	if err != nil {
		return api.RunFar
	}
	m.set(s.Name, n)
	return goOn
}

// access reads, writes or frees a cell.
func (m *machine) access(s api.Stmt) int {
	vars := m.top().vars
	addr, err := holds.Expr(s.E, vars)
	if err != nil {
		return api.RunFar
	}
	val, err := holds.Expr(s.V, vars)
	if err != nil {
		return api.RunFar
	}
	at, there := slices.BinarySearchFunc(m.heap, api.Cell{Addr: addr, Field: s.Field}, order)
	if !there {
		return api.RunFault
	}
	switch s.Kind {
	case api.SGet:
		m.set(s.Name, m.heap[at].Val)
	case api.SPut:
		m.heap[at].Val = val
	case api.SFree:
		m.heap = slices.Delete(m.heap, at, at+1)
	}
	return goOn
}

// order is how cells stand in a heap.
func order(a, b api.Cell) int {
	if c := cmp.Compare(a.Addr, b.Addr); c != 0 {
		return c
	}
	return strings.Compare(a.Field, b.Field)
}

// allocate makes cells: behind all others, since their address is the greatest.
func (m *machine) allocate(s api.Stmt) int {
	addr := heap.Fresh(m.heap)
	if addr > api.MaxWide {
		return api.RunFar
	}
	fields := slices.Clone(s.Fields)
	slices.Sort(fields)
	for _, f := range slices.Compact(fields) {
		m.heap = append(m.heap, api.Cell{Addr: addr, Field: f})
	}
	m.set(s.Name, addr)
	return goOn
}

// ask asks a condition, and does what hangs on it.
func (m *machine) ask(s api.Stmt) int {
	f := m.top()
	is, err := holds.Cond(s.C, f.vars)
	if err != nil {
		return api.RunFar
	}
	switch {
	case s.Kind == api.SAssert && !is:
		return api.RunFault
	case s.Kind == api.SIf && !is:
		f.todo = append(f.todo, s.Else)
	case s.Kind == api.SWhile && !is:
		last := len(f.todo) - 1
		f.todo[last] = f.todo[last][1:]
	case s.Kind != api.SAssert:
		f.todo = append(f.todo, s.Body)
	}
	return goOn
}

func (m *machine) call(s api.Stmt) int {
	var args []int
	for _, e := range s.Args {
		n, err := holds.Expr(e, m.top().vars)
		if err != nil {
			return api.RunFar
		}
		args = append(args, n)
	}
	m.enter(m.procs[m.places[s.Callee]], args, s.Name)
	return goOn
}
