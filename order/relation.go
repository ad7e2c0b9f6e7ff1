package order

import "plexus/api"

// relation is the closure of a relation on the elements 0 to n-1.
type relation struct {
	n      int
	after  [MaxSize]set // after[a] has each b for which [a, b] is in the closure
	before [MaxSize]set // before[b] has each a for which [a, b] is in the closure
}

// closureOf returns the closure of pairs, or the error of Check.
func closureOf(n int, pairs [][2]int) (*relation, api.Errno) {
	if e := Check(n, pairs); e != api.OK {
		return nil, e
	}
	r := &relation{n: n}
	for _, p := range pairs {
		r.after[p[0]] |= single(p[1])
	}
	// After each step, all sequences whose inner elements are at most via are covered.
	for via := range n {
		for a := range n {
			if r.after[a].has(via) {
				r.after[a] |= r.after[via]
			}
		}
	}
	for a := range n {
		r.after[a].each(func(b int) { r.before[b] |= single(a) })
	}
	return r, api.OK
}

// orderOf returns the closure of pairs, or ErrState if pairs are not acyclic.
func orderOf(n int, pairs [][2]int) (*relation, api.Errno) {
	r, e := closureOf(n, pairs)
	if e != api.OK {
		return nil, e
	}
	if !r.acyclic() {
		return nil, api.ErrState
	}
	return r, api.OK
}

// acyclic reports whether no element comes before itself.
func (r *relation) acyclic() bool {
	for a := range r.n {
		if r.after[a].has(a) {
			return false
		}
	}
	return true
}

// all returns the set of all elements.
func (r *relation) all() set {
	return single(r.n) - 1
}

// pairs returns the pairs of the closure that keep accepts, sorted.
func (r *relation) pairs(keep func(a, b int) bool) [][2]int {
	var list [][2]int
	for a := range r.n {
		r.after[a].each(func(b int) {
			if keep(a, b) {
				list = append(list, [2]int{a, b})
			}
		})
	}
	return list
}

// ready returns the elements that are not placed but whose needs are. needs is r.before, or r.after for the reverse order.
func (r *relation) ready(placed set, needs *[MaxSize]set) set {
	return (r.all() &^ placed).filter(func(e int) bool { return needs[e]&^placed == 0 })
}

// levels returns the level of each element, and how many levels there are. needs is r.before, or r.after for the reverse order.
func (r *relation) levels(needs *[MaxSize]set) ([MaxSize]int, int) {
	var levels [MaxSize]int
	count := 0
	for placed := set(0); placed != r.all(); count++ {
		layer := r.ready(placed, needs)
		layer.each(func(e int) { levels[e] = count })
		placed |= layer
	}
	return levels, count
}
