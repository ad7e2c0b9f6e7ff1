package closure

// chase is a set of names, in numbers, that grows by rules. What came last can be taken back, at the cost of what it caused, so that a search need not begin from nothing for each set.
type chase struct {
	free    []int   // the rules without premises
	uses    [][]int // for each name, the rules of which it is a premise
	adds    [][]int // for each rule, its conclusions
	lacking []int   // for each rule, how many premises are not among the counted names
	has     []bool  // for each name, whether it belongs to the set
	trail   []int   // the names of the set, in the order in which they came
	counted int     // how many names of the trail, from its beginning, are counted in lacking
}

// newChase returns the empty set of a universe of n names, with rules.
func newChase(n int, list []rule) *chase {
	c := &chase{uses: make([][]int, n), has: make([]bool, n)}
	for _, r := range list {
		c.addRule(r)
	}
	return c
}

// addRule adds a rule, without applying it. All names of the set are counted.
func (c *chase) addRule(r rule) {
	number := len(c.adds)
	if len(r.premises) == 0 {
		c.free = append(c.free, number)
	}
	lacking := 0
	for _, name := range r.premises {
		c.uses[name] = append(c.uses[name], number)
		if !c.has[name] {
			lacking++
		}
	}
	c.adds = append(c.adds, r.conclusions)
	c.lacking = append(c.lacking, lacking)
}

// disable takes a rule out of effect: it lacks a premise that no set has.
func (c *chase) disable(r int) { c.lacking[r]++ }

// enable is the inverse of disable.
func (c *chase) enable(r int) { c.lacking[r]-- }

// close makes the set the closure of the given one.
func (c *chase) close(set []int) {
	c.shrink(0)
	for _, r := range c.free {
		if c.lacking[r] == 0 {
			c.put(c.adds[r], 0)
		}
	}
	c.grow(set, 0)
}

// entails reports whether the rules entail r. It changes the set.
func (c *chase) entails(r rule) bool {
	c.close(r.premises)
	for _, name := range r.conclusions {
		if !c.has[name] {
			return false
		}
	}
	return true
}

// grow adds names and all that follow from them. If a new name is less than floor, it stops and returns false; the set can then only be shrunk.
func (c *chase) grow(list []int, floor int) bool {
	ok := c.put(list, floor)
	for ok && c.counted < len(c.trail) {
		c.count(func(r int) {
			ok = c.put(c.adds[r], floor) && ok
		})
	}
	return ok
}

// put adds names, up to the first one that is new and less than floor. It reports whether there is none.
func (c *chase) put(list []int, floor int) bool {
	for _, name := range list {
		if c.has[name] {
			continue
		}
		if name < floor {
			return false
		}
		c.has[name] = true
		c.trail = append(c.trail, name)
	}
	return true
}

// count counts the next name of the trail, and calls met for each rule whose last lacking premise it was.
func (c *chase) count(met func(r int)) {
	name := c.trail[c.counted]
	c.counted++
	for _, r := range c.uses[name] {
		c.lacking[r]--
		if c.lacking[r] == 0 {
			met(r)
		}
	}
}

// shrink takes back all names but the first size ones.
func (c *chase) shrink(size int) {
	for _, name := range c.trail[size:] {
		c.has[name] = false
	}
	for ; c.counted > size; c.counted-- {
		for _, r := range c.uses[c.trail[c.counted-1]] {
			c.lacking[r]++
		}
	}
	c.trail = c.trail[:size]
}

// members returns the set in ascending order.
func (c *chase) members() []int {
	list := make([]int, 0, len(c.trail))
	for name, has := range c.has {
		if has {
			list = append(list, name)
		}
	}
	return list
}
