package sat

// order keeps the variables in the order in which they are tried: those of the latest conflicts first.
type order struct {
	after, ahead []int // neighbours; 0 stands for both ends
	stamp        []int // falling from the front on
	clock        int
	from         int // no variable ahead of it is open
}

// newOrder begins with the variables as they are numbered.
func newOrder(n int) *order {
	o := &order{after: make([]int, n+1), ahead: make([]int, n+1), stamp: make([]int, n+1), clock: n}
	for v := 0; v <= n; v++ {
		o.after[v] = (v + 1) % (n + 1)
		o.ahead[v] = (v + n) % (n + 1)
		o.stamp[v] = n - v
	}
	o.from = o.after[0]
	return o
}

// first is the first variable that is open; there is one.
func (o *order) first(open func(v int) bool) int {
	for !open(o.from) {
		o.from = o.after[o.from]
	}
	return o.from
}

// back tells that a variable is open again.
func (o *order) back(v int) {
	if o.stamp[v] > o.stamp[o.from] || o.from == 0 {
		o.from = v
	}
}

// front puts a variable that is set at the front.
func (o *order) front(v int) {
	if o.from == v {
		o.from = o.after[v]
	}
	o.after[o.ahead[v]], o.ahead[o.after[v]] = o.after[v], o.ahead[v]
	old := o.after[0]
	o.after[0], o.ahead[v], o.after[v], o.ahead[old] = v, 0, old, v
	o.clock++
	o.stamp[v] = o.clock
}
