package schedule_test

import (
	"cmp"
	"math/rand"
	"slices"

	"plexus/api"
)

// What follows computes the definitions of the chapter directly, for short traces.

// event returns an event.
func event(name int, uses ...int) api.Event { return api.Event{Name: name, Uses: uses} }

// dependent reports whether two events have the same name, or a number occurs in both lists.
func dependent(a, b api.Event) bool {
	for _, n := range a.Uses {
		if slices.Contains(b.Uses, n) {
			return true
		}
	}
	return a.Name == b.Name
}

// equal reports whether two traces are the same sequence of events.
func equal(a, b []api.Event) bool {
	return slices.EqualFunc(a, b, func(a, b api.Event) bool { return a.Name == b.Name && slices.Equal(a.Uses, b.Uses) })
}

// names returns the names of the events of a trace.
func names(t []api.Event) []int {
	list := make([]int, len(t))
	for i, e := range t {
		list[i] = e.Name
	}
	return list
}

// picked returns the events of a trace at the positions that the bytes of a line are.
func picked(t []api.Event, line string) []api.Event {
	list := make([]api.Event, len(line))
	for i := range line {
		list[i] = t[line[i]]
	}
	return list
}

// orders returns the positions of the events of t in all sequences that come from t by exchanging neighbouring independent events, in lexicographic order of the names.
func orders(t []api.Event) []string {
	first := make([]byte, len(t))
	for i := range t {
		first[i] = byte(i)
	}
	found := []string{string(first)}
	seen := map[string]bool{string(first): true}
	for at := 0; at < len(found); at++ {
		for i := 1; i < len(t); i++ {
			next := []byte(found[at])
			next[i-1], next[i] = next[i], next[i-1]
			if !dependent(t[next[i]], t[next[i-1]]) && !seen[string(next)] {
				seen[string(next)] = true
				found = append(found, string(next))
			}
		}
	}
	slices.SortFunc(found, func(a, b string) int { return slices.Compare(names(picked(t, a)), names(picked(t, b))) })
	return found
}

// linearizations returns all sequences that are equivalent to t, in lexicographic order of the names.
func linearizations(t []api.Event) [][]api.Event {
	var list [][]api.Event
	for _, line := range orders(t) {
		list = append(list, picked(t, line))
	}
	return list
}

// normal returns the normal form, built from left to right.
func normal(t []api.Event) []api.Event {
	var list []api.Event
	rest := slices.Clone(t)
	for len(rest) > 0 {
		best := -1
		for i, e := range rest {
			isReady := !slices.ContainsFunc(rest[:i], func(before api.Event) bool { return dependent(before, e) })
			if isReady && (best < 0 || e.Name < rest[best].Name) {
				best = i
			}
		}
		list = append(list, rest[best])
		rest = slices.Delete(rest, best, best+1)
	}
	return list
}

// layers returns the names of the events of each layer.
func layers(t []api.Event) [][]int {
	var list [][]int
	layer := make([]int, len(t))
	for i, e := range t {
		for k, before := range t[:i] {
			if dependent(before, e) {
				layer[i] = max(layer[i], layer[k]+1)
			}
		}
		for len(list) <= layer[i] {
			list = append(list, nil)
		}
		list[layer[i]] = append(list[layer[i]], e.Name)
	}
	for _, of := range list {
		slices.Sort(of)
	}
	return list
}

// before returns the pairs of positions whose order all equivalent sequences keep.
func before(t []api.Event) [][2]int {
	isAlways := map[[2]int]bool{}
	for i := range t {
		for j := i + 1; j < len(t); j++ {
			isAlways[[2]int{i, j}] = true
		}
	}
	for _, line := range orders(t) {
		for at := range line {
			for later := at + 1; later < len(line); later++ {
				delete(isAlways, [2]int{int(line[later]), int(line[at])})
			}
		}
	}
	var pairs [][2]int
	for pair := range isAlways {
		pairs = append(pairs, pair)
	}
	slices.SortFunc(pairs, func(a, b [2]int) int { return cmp.Or(cmp.Compare(a[0], b[0]), cmp.Compare(a[1], b[1])) })
	return pairs
}

// beginsWith reports whether one of the sequences begins with one that is equivalent to a.
func beginsWith(a []api.Event, sequences [][]api.Event) bool {
	begins := linearizations(a)
	byNames := func(a, b []api.Event) int { return slices.Compare(names(a), names(b)) }
	for _, s := range sequences {
		if len(a) > len(s) {
			continue
		}
		k, found := slices.BinarySearchFunc(begins, s[:len(a)], byNames)
		if found && equal(begins[k], s[:len(a)]) {
			return true
		}
	}
	return false
}

// traces returns all traces of at most length events of a list.
func traces(events []api.Event, length int) [][]api.Event {
	list := [][]api.Event{nil}
	for at := 0; at < len(list); at++ {
		if len(list[at]) < length {
			for _, e := range events {
				list = append(list, append(slices.Clone(list[at]), e))
			}
		}
	}
	return list
}

// randomTrace returns a trace of length events with few names and numbers.
func randomTrace(source *rand.Rand, length int) []api.Event {
	manyNames, manyNumbers := 1+source.Intn(8), 1+source.Intn(8)
	t := make([]api.Event, length)
	for i := range t {
		t[i].Name = source.Intn(manyNames) - 2
		for range source.Intn(3) {
			t[i].Uses = append(t[i].Uses, source.Intn(manyNumbers)-2)
		}
	}
	return t
}

// exchanged returns a trace after many exchanges of neighbouring independent events at random places.
func exchanged(source *rand.Rand, t []api.Event) []api.Event {
	t = slices.Clone(t)
	for range 20 * len(t) {
		i := 1 + source.Intn(len(t)-1)
		if !dependent(t[i-1], t[i]) {
			t[i-1], t[i] = t[i], t[i-1]
		}
	}
	return t
}
