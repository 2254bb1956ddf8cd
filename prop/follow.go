package prop

// follower goes through what follows. Of each clause it watches two literals that aren't the same, and aren't known to be
// false: only when one of these becomes so, there is something to look for. Nothing is ever taken back, so each clause
// is looked through once.
type follower struct {
	clauses [][]int
	is      []int // the assignment
	watched []int // two of each clause: the literals
	first   []int // by place of a literal, the first of the watches for it, or none
	after   []int // of a watch, the next one for the same literal, or none
	seen    []int // of each clause, up to where it was looked through
	queue   []int // what is true, and not yet gone through
}

// none is no watch.
const none = -1

// place is a literal's own place in a list.
func place(l int) int {
	if l > 0 {
		return 2 * l
	}
	return -2*l + 1
}

// begin makes a follower of sound clauses.
func begin(n int, clauses [][]int) *follower {
	f := &follower{
		clauses: clauses, is: make([]int, n+1), watched: make([]int, 2*len(clauses)),
		first: make([]int, 2*n+2), after: make([]int, 2*len(clauses)), seen: make([]int, len(clauses)),
	}
	for p := range f.first {
		f.first[p] = none
	}
	for i, c := range clauses {
		k := 0
		for k < len(c) && c[k] == c[0] {
			k++
		}
		f.seen[i] = k + 1
		if k < len(c) {
			f.watch(2*i, c[0])
			f.watch(2*i+1, c[k])
		}
	}
	return f
}

// watch sets a watch to a literal.
func (f *follower) watch(w, l int) {
	p := place(l)
	f.watched[w] = l
	f.after[w] = f.first[p]
	f.first[p] = w
}

// value is 1, if the literal is true, -1, if it is false, else 0.
func (f *follower) value(l int) int {
	if l > 0 {
		return f.is[l]
	}
	return -f.is[-l]
}

// told makes true what is told, and what clauses of one literal say; not so, if there is a conflict.
func (f *follower) told(lits []int) bool {
	no := func(l int) bool { return !f.make(l) }
	if some(lits, no) {
		return false
	}
	for i, c := range f.clauses {
		if len(c) == 0 || f.seen[i] > len(c) && no(c[0]) {
			return false
		}
	}
	return true
}

// rest goes through all that follows; not so, if there is a conflict.
func (f *follower) rest() bool {
	for len(f.queue) > 0 {
		p := place(-f.queue[0])
		f.queue = f.queue[1:]
		for w := f.first[p]; w != none; {
			next := f.after[w]
			if !f.look(w) {
				return false
			}
			w = next
		}
	}
	return true
}

// make makes a literal true; not so, if it is false.
func (f *follower) make(l int) bool {
	if v := f.value(l); v != 0 {
		return v > 0
	}
	if l > 0 {
		f.is[l] = 1
	} else {
		f.is[-l] = -1
	}
	f.queue = append(f.queue, l)
	return true
}

// look looks for another literal to watch, where the one watched has become false; if there is none, the clause's other
// one must be true. Not so, if that is false.
func (f *follower) look(w int) bool {
	i, other := w/2, f.watched[w^1]
	if f.value(other) > 0 {
		return true
	}
	c := f.clauses[i]
	for k := f.seen[i]; k < len(c); k++ {
		if c[k] != other && f.value(c[k]) >= 0 {
			f.seen[i] = k + 1
			f.watch(w, c[k])
			return true
		}
	}
	f.seen[i] = len(c)
	return f.make(other)
}
