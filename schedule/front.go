package schedule

import (
	"cmp"
	"slices"

	"plexus/api"
)

// nearest returns for each event of a trace the last of the earlier events with its name, and for each of its numbers the last one that uses it; an event can be in such a list several times. All others on which it depends come before one of these in every linearization, since events with a common name or number depend on each other.
func nearest(t []api.Event) [][]int {
	lists := make([][]int, len(t))
	named, using := map[int]int{}, map[int]int{}
	for i, e := range t {
		if last, ok := named[e.Name]; ok {
			lists[i] = append(lists[i], last)
		}
		named[e.Name] = i
		for _, n := range e.Uses {
			if last, ok := using[n]; ok && last != i {
				lists[i] = append(lists[i], last)
			}
			using[n] = i
		}
	}
	return lists
}

// front is the border between the events of a trace that were taken and those that remain. Only events that are ready are taken: those before which no event remains on which they depend.
type front struct {
	trace     []api.Event
	followers [][]int // for each event those in whose lists of nearest events it is, as often as it is there
	waits     []int   // for each event that was not taken, how many of its list remain
	ready     []int   // by descending names, which differ; so the event with the least name is taken from the end
}

// newFront returns the front before which no event was taken.
func newFront(t []api.Event) *front {
	f := &front{trace: t, followers: make([][]int, len(t)), waits: make([]int, len(t))}
	for i, list := range nearest(t) {
		for _, before := range list {
			f.followers[before] = append(f.followers[before], i)
		}
		f.waits[i] = len(list)
		if len(list) == 0 {
			f.ready = append(f.ready, i)
		}
	}
	slices.SortFunc(f.ready, func(i, j int) int { return cmp.Compare(t[j].Name, t[i].Name) })
	return f
}

// take takes the ready event with the index k and returns its position in the trace.
func (f *front) take(k int) int {
	i := f.ready[k]
	f.ready = slices.Delete(f.ready, k, k+1)
	for _, next := range f.followers[i] {
		f.waits[next]--
		if f.waits[next] == 0 {
			f.add(next)
		}
	}
	return i
}

// giveBack undoes the taking of the event at a position. All that was taken later has been given back.
func (f *front) giveBack(i int) {
	for _, next := range f.followers[i] {
		if f.waits[next] == 0 {
			k, _ := f.find(f.trace[next].Name)
			f.ready = slices.Delete(f.ready, k, k+1)
		}
		f.waits[next]++
	}
	f.add(i)
}

// add makes the event at a position ready.
func (f *front) add(i int) {
	k, _ := f.find(f.trace[i].Name)
	f.ready = slices.Insert(f.ready, k, i)
}

// find returns the index of the ready event with a name, and whether there is one; otherwise where it would be.
func (f *front) find(name int) (int, bool) {
	return slices.BinarySearchFunc(f.ready, name, func(i, name int) int { return cmp.Compare(name, f.trace[i].Name) })
}

// copied returns the events at the positions of a list, without memory of the trace.
func (f *front) copied(line []int) []api.Event {
	events := make([]api.Event, 0, len(line))
	for _, i := range line {
		e := f.trace[i]
		events = append(events, api.Event{Name: e.Name, Uses: slices.Clone(e.Uses)})
	}
	return events
}
