package finite

import (
	"slices"

	"plexus/api"
	"plexus/closure"
	"plexus/names"
	"plexus/value"
)

// tooMany stands for all numbers of elements that are greater than MaxValues.
const tooMany = MaxValues + 1

// The numbers of the elements of a Flat.
const (
	flatBottom = 0
	flatName   = 1
	flatTop    = 2
)

// count returns the number of elements of a finite description, at most tooMany. Each description has an element, so a part never has more elements than the whole.
func count(l api.Lattice) int {
	switch l.Kind {
	case api.Max, api.Min:
		return int(min(l.Hi-l.Lo+1, tooMany))
	case api.Set:
		return power(2, len(l.Names))
	case api.Map:
		return power(count(l.Parts[0]), len(l.Names))
	case api.Product, api.Lex:
		n := 1
		for _, part := range l.Parts {
			n = min(n*count(part), tooMany)
		}
		return n
	case api.Flat:
		return len(l.Names) + 2
	case api.Closed:
		sets, e := closure.All(l.Names, l.Rules, MaxValues)
		if e != api.OK {
			return tooMany
		}
		return len(sets)
	}
	return 2
}

// power returns base to the power of n, at most tooMany.
func power(base, n int) int {
	product := 1
	for range n {
		product = min(product*base, tooMany)
	}
	return product
}

// elements returns the elements of a description that has at most MaxValues, in any order. They can share memory with each other and with l.
func elements(l api.Lattice) []api.Value {
	switch l.Kind {
	case api.Max, api.Min:
		return numbers(l.Lo, l.Hi)
	case api.Set:
		sets, _ := names.Subsets(l.Names)
		return withNames(0, sets)
	case api.Map:
		return maps(l)
	case api.Product, api.Lex:
		choices := make([][]api.Value, len(l.Parts))
		for i := range len(l.Parts) {
			choices[i] = elements(l.Parts[i])
		}
		return tuples(choices)
	case api.Flat:
		singles := slices.Collect(slices.Chunk(l.Names, 1))
		return append(withNames(flatName, singles), api.Value{N: flatBottom}, api.Value{N: flatTop})
	case api.Closed:
		sets, _ := closure.All(l.Names, l.Rules, MaxValues)
		return withNames(0, sets)
	}
	return numbers(0, 1)
}

// numbers returns the values with the numbers from lo to hi.
func numbers(lo, hi int64) []api.Value {
	list := make([]api.Value, hi-lo+1)
	for i := range len(list) {
		list[i].N = lo + int64(i)
	}
	return list
}

// withNames returns the values with the number n and the names of a set each.
func withNames(n int64, sets [][]string) []api.Value {
	list := make([]api.Value, len(sets))
	for i := range len(sets) {
		list[i] = api.Value{N: n, Names: sets[i]}
	}
	return list
}

// maps returns the elements of a Map.
func maps(l api.Lattice) []api.Value {
	least, _ := value.Bottom(l.Parts[0])
	list := tuples(slices.Repeat([][]api.Value{elements(l.Parts[0])}, len(l.Names)))
	for i := range len(list) {
		var m api.Value
		for k, v := range list[i].Parts {
			// A key without a value stands for the bottom.
			if !value.Equal(v, least) {
				m.Names, m.Parts = append(m.Names, l.Names[k]), append(m.Parts, v)
			}
		}
		list[i] = m
	}
	return list
}

// tuples returns all values whose parts are one of each choice.
func tuples(choices [][]api.Value) []api.Value {
	list := []api.Value{{}}
	for _, choice := range choices {
		var longer []api.Value
		for _, t := range list {
			for _, v := range choice {
				longer = append(longer, api.Value{Parts: append(slices.Clone(t.Parts), v)})
			}
		}
		list = longer
	}
	return list
}
