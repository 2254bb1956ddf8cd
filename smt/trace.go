package smt

// tracer tells which clauses a proof of layer 8 needs: it goes through what follows, as layer 6 does, but keeps the reasons.
type tracer struct {
	clauses [][]int
	in      [][]int // by place of a literal, the clauses in which it stands
	size    []int   // of each clause, how many literals it has, each counted once
	left    []int   // how many of them aren't false
	value   []int   // by variable: 1, -1, or 0
	reason  []int
	queue   []int
}

// needed tells which of the clauses, the steps behind them, are needed for the first one without literals.
func needed(n int, clauses, steps [][]int) []bool {
	all := append(clauses[:len(clauses):len(clauses)], steps...)
	t := trace(n, all)
	need := make([]bool, len(all))
	last := 0
	for last < len(all)-1 && len(all[last]) > 0 {
		last++
	}
	need[last] = true
	for i := last; i >= len(clauses); i-- {
		if need[i] {
			t.mark(t.conflict(i), need)
		}
	}
	return need
}

func trace(n int, clauses [][]int) *tracer {
	t := &tracer{clauses: clauses, in: make([][]int, 2*n+2), size: make([]int, len(clauses)), value: make([]int, n+1), reason: make([]int, n+1)}
	for i, c := range clauses {
		for _, l := range c {
			p := place(l)
			if k := len(t.in[p]); k > 0 && t.in[p][k-1] == i {
				continue
			}
			t.in[p] = append(t.in[p], i)
			t.size[i]++
		}
	}
	return t
}

// is is 1, if the literal is true, -1, if it is false, else 0.
func (t *tracer) is(l int) int {
	if l > 0 {
		return t.value[l]
	}
	return -t.value[-l]
}

// set makes a literal true, if it is neither.
func (t *tracer) set(l, reason int) {
	if t.is(l) != 0 {
		return
	}
	v := max(l, -l)
	t.value[v] = l / v
	t.reason[v] = reason
	t.queue = append(t.queue, l)
}

// conflict is the clause that is false, if those ahead of the i-th are true and the i-th isn't; -1, if there is none.
func (t *tracer) conflict(i int) int {
	clear(t.value)
	t.queue = t.queue[:0]
	t.left = append(t.left[:0], t.size...)
	for _, l := range t.clauses[i] {
		t.set(-l, -1)
	}
	for c := range i {
		if t.size[c] <= 1 && !t.look(c) {
			return c
		}
	}
	for k := 0; k < len(t.queue); k++ {
		for _, c := range t.in[place(-t.queue[k])] {
			if c >= i {
				break
			}
			t.left[c]--
			if t.left[c] <= 1 && !t.look(c) {
				return c
			}
		}
	}
	return -1
}

// look makes true the last literal of a clause that isn't false; not so, if there is none.
func (t *tracer) look(c int) bool {
	for _, l := range t.clauses[c] {
		if t.is(l) >= 0 {
			t.set(l, c)
			return true
		}
	}
	return false
}

// mark marks a clause that is false, and the reasons of all its literals.
func (t *tracer) mark(c int, need []bool) {
	if c < 0 {
		return
	}
	open := []int{c}
	for len(open) > 0 {
		c := open[len(open)-1]
		open = open[:len(open)-1]
		need[c] = true
		for _, l := range t.clauses[c] {
			v := max(l, -l)
			if r := t.reason[v]; t.value[v] != 0 && r >= 0 {
				t.reason[v] = -1 // once is enough
				open = append(open, r)
			}
		}
	}
}
