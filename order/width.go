package order

import "plexus/api"

// none says that no element comes directly before an element in its chain.
const none = -1

// MaxAntichain returns the lexicographically least of the largest antichains.
func MaxAntichain(n int, pairs [][2]int) ([]int, api.Errno) {
	r, e := orderOf(n, pairs)
	if e != api.OK {
		return nil, e
	}
	chosen, candidates := set(0), r.all()
	missing := r.width(candidates)
	for missing > 0 {
		least := candidates.least()
		candidates &^= single(least)
		// least is chosen exactly if enough elements remain that are not comparable with it; otherwise a largest antichain is left without it.
		apart := candidates &^ (r.after[least] | r.before[least])
		if r.width(apart) == missing-1 {
			chosen |= single(least)
			candidates = apart
			missing--
		}
	}
	return chosen.list(), api.OK
}

// ChainCover returns a partition of the elements into the smallest number of chains.
func ChainCover(n int, pairs [][2]int) ([][]int, api.Errno) {
	r, e := orderOf(n, pairs)
	if e != api.OK {
		return nil, e
	}
	previous, _ := r.link(r.all())
	var next [MaxSize]int
	for a := range n {
		next[a] = none
	}
	firsts := r.all().filter(func(b int) bool { return previous[b] == none })
	(r.all() &^ firsts).each(func(b int) { next[previous[b]] = b })
	var chains [][]int
	firsts.each(func(first int) {
		var chain []int
		for a := first; a != none; a = next[a] {
			chain = append(chain, a)
		}
		chains = append(chains, chain)
	})
	return chains, api.OK
}

// width returns how many elements the largest antichains within a set have: as many as the fewest chains that cover it (Dilworth's theorem).
func (r *relation) width(within set) int {
	_, links := r.link(within)
	return within.size() - links
}

// link divides a set into as few chains as possible. It returns the element that comes directly before each element in its chain, and how many elements have one.
//
// The links are a largest matching of elements with elements that come after them: since the relation is transitive, any such matching is a division into chains.
func (r *relation) link(within set) ([MaxSize]int, int) {
	var previous [MaxSize]int
	for b := range previous {
		previous[b] = none
	}
	tried := set(0)
	var augment func(a int) bool
	augment = func(a int) bool {
		for {
			untried := r.after[a] & within &^ tried
			if untried == 0 {
				return false
			}
			b := untried.least()
			tried |= single(b)
			if previous[b] == none || augment(previous[b]) {
				previous[b] = a
				return true
			}
		}
	}
	links := 0
	within.each(func(a int) {
		tried = 0
		if augment(a) {
			links++
		}
	})
	return previous, links
}
