package schedule

import "plexus/api"

// Count returns the number of linearizations, but at most limit.
func Count(t []api.Event, limit int) int {
	if limit <= 0 {
		return 0
	}
	n := 0
	newFront(t).linearizations(func([]int) bool {
		n++
		return n < limit
	})
	return n
}

// All returns the linearizations in lexicographic order of their names, but at most limit.
func All(t []api.Event, limit int) [][]api.Event {
	if limit <= 0 {
		return nil
	}
	var all [][]api.Event
	f := newFront(t)
	f.linearizations(func(line []int) bool {
		all = append(all, f.copied(line))
		return len(all) < limit
	})
	return all
}

// linearizations calls visit with the positions of all linearizations, in lexicographic order of their names, until visit returns false. Each event that is ready begins a linearization of what remains, so no way is in vain.
func (f *front) linearizations(visit func(line []int) bool) {
	line := make([]int, 0, len(f.trace))
	var extend func() bool
	extend = func() bool {
		if len(line) == len(f.trace) {
			return visit(line)
		}
		for k := len(f.ready) - 1; k >= 0; k-- {
			i := f.take(k)
			line = append(line, i)
			goesOn := extend()
			line = line[:len(line)-1]
			f.giveBack(i)
			if !goesOn {
				return false
			}
		}
		return true
	}
	extend()
}
