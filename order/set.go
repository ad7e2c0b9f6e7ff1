package order

import "math/bits"

// set is a set of elements: bit e is set if it has the element e.
type set uint64

// single returns the set of one element. For MaxSize, which is none, it is empty.
func single(e int) set { return 1 << e }

// has reports whether e is in s.
func (s set) has(e int) bool { return s&single(e) != 0 }

// least returns the least element of s, or MaxSize if s is empty.
func (s set) least() int { return bits.TrailingZeros64(uint64(s)) }

// size returns the number of elements.
func (s set) size() int { return bits.OnesCount64(uint64(s)) }

// each calls visit with the elements, in ascending order.
func (s set) each(visit func(e int)) {
	for ; s != 0; s &= s - 1 {
		visit(s.least())
	}
}

// filter returns the elements that keep accepts.
func (s set) filter(keep func(e int) bool) set {
	kept := set(0)
	s.each(func(e int) {
		if keep(e) {
			kept |= single(e)
		}
	})
	return kept
}

// list returns the elements in ascending order.
func (s set) list() []int {
	list := make([]int, 0, s.size())
	s.each(func(e int) { list = append(list, e) })
	return list
}
