package closure

import (
	"math/rand"
	"slices"

	"plexus/api"
)

// What follows computes the definitions of the chapter directly, for few names. A set is a bit mask in which the first name of the universe has the highest bit, so that the lectic order of sets is the order of the numbers.

// letters are names in ascending order; a universe of n names consists of the first n.
var letters = []string{"a", "a-b", "a0", "aa", "b", "c-9"}

// maskOf returns the mask of a set.
func maskOf(universe, set []string) int {
	mask := 0
	for i, s := range universe {
		if slices.Contains(set, s) {
			mask |= 1 << (len(universe) - 1 - i)
		}
	}
	return mask
}

// setOf returns the set with a mask.
func setOf(universe []string, mask int) []string {
	set := []string{}
	for i, s := range universe {
		if mask>>(len(universe)-1-i)&1 == 1 {
			set = append(set, s)
		}
	}
	return set
}

// isClosed reports whether a set is closed.
func isClosed(universe []string, rules []api.Rule, mask int) bool {
	for _, r := range rules {
		premises, conclusion := maskOf(universe, r.If), maskOf(universe, []string{r.Then})
		if premises&^mask == 0 && conclusion&^mask != 0 {
			return false
		}
	}
	return true
}

// closedMasks returns the closed sets in lectic order.
func closedMasks(universe []string, rules []api.Rule) []int {
	var all []int
	for mask := range 1 << len(universe) {
		if isClosed(universe, rules, mask) {
			all = append(all, mask)
		}
	}
	return all
}

// closureOf returns the smallest closed set that contains a set: the intersection of all of them.
func closureOf(closed []int, mask int) int {
	least := -1
	for _, c := range closed {
		if mask&^c == 0 {
			least &= c
		}
	}
	return least
}

// isEntailed reports whether each of the closed sets is closed under r.
func isEntailed(universe []string, closed []int, r api.Rule) bool {
	for _, mask := range closed {
		if !isClosed(universe, []api.Rule{r}, mask) {
			return false
		}
	}
	return true
}

// pseudoMasks returns the pseudo-closed sets in lectic order. A set is a greater number than its proper subsets.
func pseudoMasks(universe []string, closed []int) []int {
	var all []int
	for mask := range 1 << len(universe) {
		pseudo := !slices.Contains(closed, mask)
		for _, smaller := range all {
			if smaller&^mask == 0 && closureOf(closed, smaller)&^mask != 0 {
				pseudo = false
			}
		}
		if pseudo {
			all = append(all, mask)
		}
	}
	return all
}

// chain returns the rules that forward chaining applies, in order, and the set that it reaches.
func chain(universe []string, rules []api.Rule, mask int) ([]int, int) {
	var applied []int
	for {
		at := slices.IndexFunc(rules, func(r api.Rule) bool { return !isClosed(universe, []api.Rule{r}, mask) })
		if at < 0 {
			return applied, mask
		}
		applied = append(applied, at)
		mask |= maskOf(universe, []string{rules[at].Then})
	}
}

// derivation returns the rules that the derivation of a name by forward chaining uses.
func derivation(rules []api.Rule, applied []int, set []string, name string) []int {
	if slices.Contains(set, name) {
		return nil
	}
	at := slices.IndexFunc(applied, func(r int) bool { return rules[r].Then == name })
	used := []int{applied[at]}
	for _, premise := range rules[applied[at]].If {
		used = append(used, derivation(rules, applied, set, premise)...)
	}
	var list []int
	for _, r := range applied {
		if slices.Contains(used, r) {
			list = append(list, r)
		}
	}
	return list
}

// reduceSlowly reduces the rules as the chapter says.
func reduceSlowly(universe []string, rules []api.Rule) []api.Rule {
	closed := closedMasks(universe, rules)
	var list []api.Rule
	for _, r := range rules {
		for _, premise := range r.If {
			shorter := api.Rule{If: slices.DeleteFunc(slices.Clone(r.If), func(s string) bool { return s == premise }), Then: r.Then}
			if isEntailed(universe, closed, shorter) {
				r = shorter
			}
		}
		list = append(list, r)
	}
	for i := 0; i < len(list); {
		others := slices.Concat(list[:i], list[i+1:])
		if isEntailed(universe, closedMasks(universe, others), list[i]) {
			list = others
		} else {
			i++
		}
	}
	return list
}

// equalRules reports whether two lists of rules are the same.
func equalRules(a, b []api.Rule) bool {
	return slices.EqualFunc(a, b, func(x, y api.Rule) bool { return x.Then == y.Then && slices.Equal(x.If, y.If) })
}

// randomRules returns rules of a universe; there are none for an empty one.
func randomRules(source *rand.Rand, universe []string) []api.Rule {
	var rules []api.Rule
	if len(universe) == 0 {
		return nil
	}
	size, share := source.Intn(9), 2+source.Intn(3)
	for range size {
		r := api.Rule{Then: universe[source.Intn(len(universe))]}
		for _, s := range universe {
			if source.Intn(share) == 0 {
				r.If = append(r.If, s)
			}
		}
		rules = append(rules, r)
	}
	return rules
}

// manyRules calls visit with universes of up to five names, and rules.
func manyRules(count int, visit func(source *rand.Rand, universe []string, rules []api.Rule)) {
	source := rand.New(rand.NewSource(1))
	for i := range count {
		universe := letters[:i%6]
		visit(source, universe, randomRules(source, universe))
	}
	visit(source, letters[:3], []api.Rule{{Then: "a"}, {Then: "a0"}, {Then: "a-b"}})
	visit(source, letters[:2], []api.Rule{{If: []string{"a"}, Then: "a"}, {If: []string{"a", "a-b"}, Then: "a-b"}})
}
