package order

import "slices"

// What follows computes the definitions of the chapter directly, for few elements.

// beforeTable returns whether there is a sequence from a to b, by following the pairs.
func beforeTable(n int, pairs [][2]int) [][]bool {
	table := make([][]bool, n)
	for a := range n {
		table[a] = make([]bool, n)
		open := []int{a}
		for len(open) > 0 {
			from := open[0]
			open = open[1:]
			for _, p := range pairs {
				if p[0] == from && !table[a][p[1]] {
					table[a][p[1]] = true
					open = append(open, p[1])
				}
			}
		}
	}
	return table
}

// isAcyclic reports whether no element comes before itself.
func isAcyclic(before [][]bool) bool {
	for a := range before {
		if before[a][a] {
			return false
		}
	}
	return true
}

// tablePairs returns the pairs of a table that keep accepts.
func tablePairs(before [][]bool, keep func(a, b int) bool) [][2]int {
	var list [][2]int
	for a := range before {
		for b := range before {
			if before[a][b] && keep(a, b) {
				list = append(list, [2]int{a, b})
			}
		}
	}
	return list
}

// isCover reports whether no element lies between a and b.
func isCover(before [][]bool, a, b int) bool {
	for c := range before {
		if before[a][c] && before[c][b] {
			return false
		}
	}
	return true
}

// leastOrder returns the least permutation in which a comes before b for each pair.
func leastOrder(n int, pairs [][2]int) []int {
	var found []int
	var extend func(list []int) bool
	extend = func(list []int) bool {
		if len(list) == n {
			found = slices.Clone(list)
			return respects(list, pairs)
		}
		for e := range n {
			if !slices.Contains(list, e) && extend(append(slices.Clone(list), e)) {
				return true
			}
		}
		return false
	}
	extend(nil)
	return found
}

// respects reports whether a comes before b in the list for each pair.
func respects(list []int, pairs [][2]int) bool {
	for _, p := range pairs {
		if slices.Index(list, p[0]) >= slices.Index(list, p[1]) {
			return false
		}
	}
	return true
}

// levelOf returns the number of steps of the longest chain that ends at b.
func levelOf(before [][]bool, b int) int {
	level := 0
	for a := range before {
		if before[a][b] {
			level = max(level, levelOf(before, a)+1)
		}
	}
	return level
}

// allSubsets returns all sets of the elements that keep accepts, in ascending numbers.
func allSubsets(n int, keep func(list []int) bool) [][]int {
	var all [][]int
	for mask := range 1 << n {
		var list []int
		for e := range n {
			if mask>>e&1 == 1 {
				list = append(list, e)
			}
		}
		if keep(list) {
			all = append(all, list)
		}
	}
	return all
}

// isChain reports whether the elements, in this order, are a chain.
func isChain(before [][]bool, list []int) bool {
	for i := range list {
		for k := range i {
			if !before[list[k]][list[i]] {
				return false
			}
		}
	}
	return true
}

// isAntichain reports whether no two elements are comparable, and they are ascending.
func isAntichain(before [][]bool, list []int) bool {
	for i := range list {
		for k := range i {
			if before[list[k]][list[i]] || before[list[i]][list[k]] || list[k] >= list[i] {
				return false
			}
		}
	}
	return true
}

// isDownset reports whether the elements are down-closed.
func isDownset(before [][]bool, list []int) bool {
	for _, b := range list {
		for a := range before {
			if before[a][b] && !slices.Contains(list, a) {
				return false
			}
		}
	}
	return true
}

// longestLeast returns, of the longest lists, the lexicographically least one.
func longestLeast(lists [][]int) []int {
	var best []int
	for i, list := range lists {
		if i == 0 || len(list) > len(best) || len(list) == len(best) && slices.Compare(list, best) < 0 {
			best = list
		}
	}
	return best
}

// allChains returns all chains. The elements of a chain have different levels, so sorting by them writes it in its order.
func allChains(before [][]bool) [][]int {
	return allSubsets(len(before), func(list []int) bool {
		slices.SortFunc(list, func(a, b int) int { return levelOf(before, a) - levelOf(before, b) })
		return isChain(before, list)
	})
}

// allAntichains returns all antichains.
func allAntichains(before [][]bool) [][]int {
	return allSubsets(len(before), func(list []int) bool { return isAntichain(before, list) })
}

// allDownsets returns all down-closed sets, sorted.
func allDownsets(before [][]bool) [][]int {
	all := allSubsets(len(before), func(list []int) bool { return isDownset(before, list) })
	slices.SortFunc(all, slices.Compare[[]int])
	return all
}
