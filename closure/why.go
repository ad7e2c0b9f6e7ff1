package closure

import (
	"container/heap"
	"slices"

	"plexus/api"
)

// Why returns a derivation of a name from a set: the indices of the rules that are applied, in order.
func Why(universe []string, rules []api.Rule, set []string, name string) ([]int, api.Errno) {
	list, members, e := compileWithSet(universe, rules, set)
	if e != api.OK {
		return nil, e
	}
	goal, e := indices(universe, []string{name})
	if e != api.OK {
		return nil, e
	}
	c := newChase(len(universe), list)
	applied := c.forward(members)
	if !c.has[goal[0]] {
		return nil, api.ErrNone
	}
	return needed(list, applied, goal[0]), api.OK
}

// forward adds a set by forward chaining to the empty set, and returns the rules in the order in which they are applied.
func (c *chase) forward(set []int) []int {
	var applied []int
	ready := &indexHeap{}
	c.put(set, 0)
	for _, r := range c.free {
		heap.Push(ready, r)
	}
	for {
		for c.counted < len(c.trail) {
			c.count(func(r int) { heap.Push(ready, r) })
		}
		if ready.Len() == 0 {
			return applied
		}
		r := heap.Pop(ready).(int)
		size := len(c.trail)
		c.put(c.adds[r], 0)
		if len(c.trail) > size {
			applied = append(applied, r)
		}
	}
}

// needed returns those of the applied rules that the derivation of a name uses, in order.
func needed(list []rule, applied []int, name int) []int {
	wanted := map[int]bool{name: true}
	var used []int
	for _, r := range slices.Backward(applied) {
		// No two applied rules have the same conclusion, so this is the rule that derived it.
		if wanted[list[r].conclusions[0]] {
			used = append(used, r)
			for _, premise := range list[r].premises {
				wanted[premise] = true
			}
		}
	}
	slices.Reverse(used)
	return used
}

// indexHeap is a heap of indices, the least one first.
type indexHeap struct {
	list []int
}

// Len returns the number of indices.
func (h *indexHeap) Len() int { return len(h.list) }

// Less reports whether the index at i is less than the one at k.
func (h *indexHeap) Less(i, k int) bool { return h.list[i] < h.list[k] }

// Swap exchanges two indices.
func (h *indexHeap) Swap(i, k int) { h.list[i], h.list[k] = h.list[k], h.list[i] }

// Push appends an index.
func (h *indexHeap) Push(x any) { h.list = append(h.list, x.(int)) }

// Pop removes the last index.
func (h *indexHeap) Pop() any {
	last := len(h.list) - 1
	x := h.list[last]
	h.list = h.list[:last]
	return x
}
