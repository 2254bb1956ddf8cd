package prop

// follower goes through what follows, each literal of each clause once: a clause counts how many of its literals, each
// told once, aren't known to be false.
type follower struct {
	clauses [][]int
	is      []int   // the assignment
	left    []int   // of each clause, how many aren't false
	in      [][]int // by place of a literal, the clauses in which it stands
	queue   []int   // what is true, and not yet gone through
}

// place is a literal's own place in a list.
func place(l int) int {
	if l > 0 {
		return 2 * l
	}
	return -2*l + 1
}

// begin makes a follower of sound clauses.
func begin(n int, clauses [][]int) *follower {
	f := &follower{clauses: clauses, is: make([]int, n+1), left: make([]int, len(clauses)), in: make([][]int, 2*n+2)}
	for i, c := range clauses {
		for _, l := range c {
			p := place(l)
			if k := len(f.in[p]); k > 0 && f.in[p][k-1] == i {
				continue
			}
			f.in[p] = append(f.in[p], i)
			f.left[i]++
		}
	}
	return f
}

// value is 1, if the literal is true, -1, if it is false, else 0.
func (f *follower) value(l int) int {
	if l > 0 {
		return f.is[l]
	}
	return -f.is[-l]
}

// first makes true what is told, and what clauses of one literal say; not so, if there is a conflict.
func (f *follower) first(lits []int) bool {
	for _, l := range lits {
		if !f.make(l) {
			return false
		}
	}
	for i := range f.clauses {
		if !f.look(i) {
			return false
		}
	}
	return true
}

// rest goes through all that follows; not so, if there is a conflict.
func (f *follower) rest() bool {
	for len(f.queue) > 0 {
		l := f.queue[0]
		f.queue = f.queue[1:]
		for _, i := range f.in[place(-l)] {
			f.left[i]--
			if !f.look(i) {
				return false
			}
		}
	}
	return true
}

// make makes a literal true; not so, if it is false.
func (f *follower) make(l int) bool {
	switch f.value(l) {
	case 1:
		return true
	case -1:
		return false
	}
	if l > 0 {
		f.is[l] = 1
	} else {
		f.is[-l] = -1
	}
	f.queue = append(f.queue, l)
	return true
}

// look makes true the last literal of a clause that isn't false; not so, if there is none.
func (f *follower) look(i int) bool {
	if f.left[i] > 1 {
		return true
	}
	notFalse := func(l int) bool { return f.value(l) >= 0 }
	return some(f.clauses[i], func(l int) bool { return notFalse(l) && f.make(l) })
}
