package closure

import "plexus/api"

// Reduce returns an equivalent list of rules without superfluous premises and without superfluous rules.
func Reduce(universe []string, rules []api.Rule) ([]api.Rule, api.Errno) {
	list, e := compile(universe, rules)
	if e != api.OK {
		return nil, e
	}
	var result []api.Rule
	for _, r := range removeRules(len(universe), removePremises(len(universe), list)) {
		result = append(result, api.Rule{If: named(universe, r.premises), Then: universe[r.conclusions[0]]})
	}
	return result, api.OK
}

// removePremises returns the rules without superfluous premises.
func removePremises(n int, list []rule) []rule {
	c := newChase(n, list)
	result := make([]rule, 0, len(list))
	for _, r := range list {
		for k := 0; k < len(r.premises); {
			weaker := rule{without(r.premises, k), r.conclusions}
			if c.entails(weaker) {
				r = weaker
			} else {
				k++
			}
		}
		result = append(result, r)
	}
	return result
}

// removeRules returns the rules without those that the rules left entail.
func removeRules(n int, list []rule) []rule {
	c := newChase(n, list)
	var left []rule
	for i, r := range list {
		c.disable(i)
		if !c.entails(r) {
			c.enable(i)
			left = append(left, r)
		}
	}
	return left
}

// without returns a copy of the list that lacks the element at an index.
func without(list []int, index int) []int {
	rest := make([]int, len(list)-1)
	copy(rest, list[:index])
	copy(rest[index:], list[index+1:])
	return rest
}
