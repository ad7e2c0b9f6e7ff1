package quorum_test

import (
	"cmp"
	"math"
	"math/bits"
	"math/rand"
	"slices"

	"plexus/api"
)

// What follows computes the definitions of the chapter directly. A mask is a subset of the members 0 to n-1 of a group: those whose bits are set.

// modes are both modes.
var modes = []int{api.Crash, api.Lies}

// noModes are numbers that are no modes.
var noModes = []int{math.MinInt, -1, 0, 3, 4, math.MaxInt}

// noSizes are numbers of members that no group has.
var noSizes = []int{math.MinInt, -12, -1, 0, 13, 14, 64, math.MaxInt}

// faults[mode-1][n-1] is how many of n members may be faulty: less than a half of them, or less than a third.
var faults = [2][12]int{{0, 0, 1, 1, 2, 2, 3, 3, 4, 4, 5, 5}, {0, 0, 0, 1, 1, 1, 2, 2, 2, 3, 3, 3}}

// isQuorum reports whether a subset of n members is a quorum.
func isQuorum(mode, n, mask int) bool {
	return n-bits.OnesCount(uint(mask)) <= faults[mode-1][n-1]
}

// quorums returns all quorums of n members.
func quorums(mode, n int) []int {
	var list []int
	for mask := range 1 << n {
		if isQuorum(mode, n, mask) {
			list = append(list, mask)
		}
	}
	return list
}

// blocks reports whether a subset of n members has one in common with each of the quorums.
func blocks(quorums []int, mask int) bool {
	for _, q := range quorums {
		if q&mask == 0 {
			return false
		}
	}
	return true
}

// leastSets returns the subsets of n members that have a property, and of which no proper subset has it, in the order of numbers.
func leastSets(n int, has func(mask int) bool) []int {
	var list []int
	for mask := range 1 << n {
		is := has(mask)
		for part := (mask - 1) & mask; is && part != mask; part = (part - 1) & mask {
			is = !has(part)
		}
		if is {
			list = append(list, mask)
		}
	}
	return list
}

// picked returns the members of a group at the bits of a mask.
func picked(members []int, mask int) []int {
	var list []int
	for i, replica := range members {
		if mask>>i&1 == 1 {
			list = append(list, replica)
		}
	}
	return list
}

// lists returns the lists of members that masks stand for, in lexicographic order.
func lists(members []int, masks []int) [][]int {
	var all [][]int
	for _, mask := range masks {
		all = append(all, picked(members, mask))
	}
	slices.SortFunc(all, before)
	return all
}

// before compares lists: at the first position at which they differ, the smaller replica comes first; a proper prefix comes before the longer list.
func before(a, b []int) int {
	for i := range min(len(a), len(b)) {
		if a[i] != b[i] {
			return cmp.Compare(a[i], b[i])
		}
	}
	return cmp.Compare(len(a), len(b))
}

// everyReplica returns all replicas that there may be.
func everyReplica() []int {
	list := make([]int, api.MaxReplicas)
	for i := range list {
		list[i] = i
	}
	return list
}

// mixed returns a list with exactly these members of a group, and with other numbers and repetitions, in any order.
func mixed(source *rand.Rand, members, chosen []int) []int {
	list := slices.Clone(chosen)
	for range source.Intn(4) {
		if len(chosen) > 0 {
			list = append(list, chosen[source.Intn(len(chosen))])
		}
		other := []int{math.MinInt, -1, source.Intn(12), 12, 13, 64, 1 << 32, math.MaxInt, source.Intn(100) - 50}[source.Intn(9)]
		if !slices.Contains(members, other) {
			list = append(list, other, other)
		}
	}
	source.Shuffle(len(list), func(i, j int) { list[i], list[j] = list[j], list[i] })
	return list
}

// noGroups are lists of members that are no groups.
func noGroups() [][]int {
	list := [][]int{nil, {}, {-1}, {12}, {math.MinInt}, {math.MaxInt}, {0, 0}, {5, 2}, {1, 2, 2}, {1, 3, 2}, {-1, 0, 1}, {0, 1, 12}, {10, 11, 12}, {11, 11}, {3, 2, 4, 5}, {0, 1, 2, 3, 4, 5, 5}, {math.MinInt, 0, math.MaxInt}, {1 << 32}, {0, 1<<32 + 1}}
	every := everyReplica()
	return append(list, append(every, 12), append([]int{-1}, every...), append([]int{0}, every...), append(slices.Clone(every), 11), make([]int, 12), make([]int, 100000))
}
