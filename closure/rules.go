package closure

import (
	"slices"

	"plexus/api"
	"plexus/names"
)

// rule is a rule in numbers: a name is its index in the universe.
type rule struct {
	premises    []int
	conclusions []int
}

// compile checks the universe and the rules, and returns the rules in numbers.
func compile(universe []string, rules []api.Rule) ([]rule, api.Errno) {
	for _, s := range universe {
		if !names.Valid(s) {
			return nil, api.ErrName
		}
	}
	if !names.Sorted(universe) {
		return nil, api.ErrArgument
	}
	list := make([]rule, 0, len(rules))
	for _, r := range rules {
		premises, e := indices(universe, r.If)
		if e != api.OK {
			return nil, e
		}
		conclusions, e := indices(universe, []string{r.Then})
		if e != api.OK {
			return nil, e
		}
		list = append(list, rule{premises, conclusions})
	}
	return list, api.OK
}

// compileWithSet checks and returns a set together with the universe and the rules.
func compileWithSet(universe []string, rules []api.Rule, set []string) ([]rule, []int, api.Errno) {
	list, e := compile(universe, rules)
	if e != api.OK {
		return nil, nil, e
	}
	members, e := indices(universe, set)
	if e != api.OK {
		return nil, nil, e
	}
	return list, members, api.OK
}

// indices returns the indices of the elements of a set in a strictly ascending universe.
func indices(universe, set []string) ([]int, api.Errno) {
	if !names.Sorted(set) {
		return nil, api.ErrArgument
	}
	list := make([]int, 0, len(set))
	for _, s := range set {
		at, ok := slices.BinarySearch(universe, s)
		if !ok {
			return nil, api.ErrName
		}
		list = append(list, at)
	}
	return list, api.OK
}

// named returns the names with these indices, in the same order.
func named(universe []string, list []int) []string {
	set := make([]string, 0, len(list))
	for _, at := range list {
		set = append(set, universe[at])
	}
	return set
}
