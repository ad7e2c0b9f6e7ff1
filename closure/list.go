package closure

import "plexus/api"

// maxItems is the largest number of items of a result for which the document promises anything.
const maxItems = 1<<31 - 1

// All returns all closed sets in lectic order, if there are at most limit.
func All(universe []string, rules []api.Rule, limit int) ([][]string, api.Errno) {
	list, e := compile(universe, rules)
	if e != api.OK {
		return nil, e
	}
	if limit < 1 {
		return nil, api.ErrArgument
	}
	c := newChase(len(universe), list)
	// Counting first keeps the memory small if the sets are too many. Items are counted as well, so that the search ends soon also if limit is far beyond what any result can hold.
	count, items := 0, 0
	fits := c.walk(func() ([]int, bool) {
		count++
		items += len(c.trail)
		return nil, count <= limit && items <= maxItems
	})
	if !fits {
		return nil, api.ErrLimit
	}
	sets := make([][]string, 0, count)
	c.walk(func() ([]int, bool) {
		sets = append(sets, named(universe, c.members()))
		return nil, true
	})
	return sets, api.OK
}

// Stem returns the canonical basis: for each pseudo-closed set, in lectic order, the set and its closure.
func Stem(universe []string, rules []api.Rule, limit int) ([][2][]string, api.Errno) {
	list, e := compile(universe, rules)
	if e != api.OK {
		return nil, e
	}
	if limit < 1 {
		return nil, api.ErrArgument
	}
	full := newChase(len(universe), list)
	// c gets a rule for each pseudo-closed set that is found, so that its later sets are those that contain the closures of all pseudo-closed proper subsets. A set comes behind its subsets in lectic order, so none of them is found too late.
	c := newChase(len(universe), nil)
	var stem [][2][]string
	count := 0
	fits := c.walk(func() ([]int, bool) {
		count++
		full.close(c.trail)
		if len(full.trail) == len(c.trail) {
			return nil, count <= limit
		}
		set := c.members()
		stem = append(stem, [2][]string{named(universe, set), named(universe, full.members())})
		more := full.missing(c.has)
		c.addRule(rule{set, more})
		return more, count <= limit
	})
	if !fits {
		return nil, api.ErrLimit
	}
	return stem, api.OK
}

// missing returns the names of the set that has does not have.
func (c *chase) missing(has []bool) []int {
	var list []int
	for _, name := range c.trail {
		if !has[name] {
			list = append(list, name)
		}
	}
	return list
}

// walk lets the set be each closed set in turn, in lectic order, and calls visit each time, until visit returns false. It reports whether visit always returned true. The names that visit returns are added to all later sets that contain the visited one.
func (c *chase) walk(visit func() ([]int, bool)) bool {
	// below visits the set and all greater ones that have the same names less than first. Of these, the ones whose first difference is a greater name come first in lectic order.
	var below func(first int) bool
	below = func(first int) bool {
		more, ok := visit()
		if !ok {
			return false
		}
		size := len(c.trail)
		start := append([]int{0}, more...)
		for name := len(c.has) - 1; name >= first; name-- {
			if c.has[name] {
				continue
			}
			start[0] = name
			if c.grow(start, name) && !below(name+1) {
				return false
			}
			c.shrink(size)
		}
		return true
	}
	c.close(nil)
	return below(0)
}
