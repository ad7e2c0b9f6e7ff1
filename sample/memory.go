package sample

import (
	"slices"
	"strconv"

	"plexus/api"
)

// Clone returns a copy of v, which shares no memory with it.
func Clone(v api.Value) api.Value {
	c := api.Value{N: v.N, Names: slices.Clone(v.Names)}
	for _, part := range v.Parts {
		c.Parts = append(c.Parts, Clone(part))
	}
	for _, e := range v.Entries {
		c.Entries = append(c.Entries, api.Entry{Clock: slices.Clone(e.Clock), Name: e.Name})
	}
	return c
}

// Overwrite writes content of its own into each place of the slices in the values of a list, and reports whether all of it is still there in the end: whether no two of these slices share memory.
func Overwrite(list []api.Value) bool {
	count := 0
	for i := range list {
		count = spread(&list[i], count)
	}
	seen := map[string]bool{}
	for _, v := range list {
		collect(v, seen)
	}
	return len(seen) == count
}

// spread writes the next numbers into the places of the slices in a value, and returns the number behind them.
func spread(v *api.Value, next int) int {
	for i := range v.Names {
		v.Names[i] = strconv.Itoa(next)
		next++
	}
	for i := range v.Entries {
		v.Entries[i].Name = strconv.Itoa(next)
		next++
		for k := range v.Entries[i].Clock {
			v.Entries[i].Clock[k].N = int64(next)
			next++
		}
	}
	for i := range v.Parts {
		v.Parts[i].N = int64(next)
		next = spread(&v.Parts[i], next+1)
	}
	// What lies behind the end of a slice can belong to another one.
	_, _, _ = append(v.Names, ""), append(v.Parts, Number(-1)), append(v.Entries, api.Entry{})
	return next
}

// collect adds the numbers that spread has written.
func collect(v api.Value, seen map[string]bool) {
	for _, s := range v.Names {
		seen[s] = true
	}
	for _, e := range v.Entries {
		seen[e.Name] = true
		for _, t := range e.Clock {
			seen[strconv.FormatInt(t.N, 10)] = true
		}
	}
	for _, part := range v.Parts {
		seen[strconv.FormatInt(part.N, 10)] = true
		collect(part, seen)
	}
}
