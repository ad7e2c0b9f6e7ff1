package order

import "plexus/api"

// maxItems is the largest number of items of a result for which the document promises anything.
const maxItems = 1<<31 - 1

// Downsets returns all down-closed sets, if there are at most limit.
func Downsets(n int, pairs [][2]int, limit int) ([][]int, api.Errno) {
	if e := Check(n, pairs); e != api.OK {
		return nil, e
	}
	if limit < 1 {
		return nil, api.ErrArgument
	}
	r, e := orderOf(n, pairs)
	if e != api.OK {
		return nil, e
	}
	// Counting first keeps the memory small if the sets are too many. Items are counted as well, so that the search ends soon also if limit is far beyond what any result can hold.
	count, items := 0, 0
	fits := r.downsets(func(s set) bool {
		count++
		items += s.size()
		return count <= limit && items <= maxItems
	})
	if !fits {
		return nil, api.ErrLimit
	}
	lists := make([][]int, 0, count)
	r.downsets(func(s set) bool {
		lists = append(lists, s.list())
		return true
	})
	return lists, api.OK
}

// downsets calls visit with all down-closed sets, in lexicographic order, until visit returns false. It reports whether visit always returned true.
func (r *relation) downsets(visit func(s set) bool) bool {
	// extend visits the sets that consist of chosen and of some of the elements of open, all of which are greater numbers than those of chosen. lacking are the elements that come before one of chosen but are not chosen; all of them are open. No element of open comes after one that is neither chosen nor open, so at least one of the sets is down-closed.
	var extend func(chosen, lacking, open set) bool
	extend = func(chosen, lacking, open set) bool {
		if lacking == 0 && !visit(chosen) {
			return false
		}
		for open != 0 {
			e := open.least()
			with := chosen | single(e)
			if !extend(with, (lacking|r.before[e])&^with, open&^single(e)) {
				return false
			}
			if lacking.has(e) {
				return true
			}
			open &^= single(e) | r.after[e]
		}
		return true
	}
	return extend(0, 0, r.all())
}
