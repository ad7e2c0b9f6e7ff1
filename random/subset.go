package random

import "plexus/api"

// maxElements is the largest number of elements whose subsets are counted.
const maxElements = 60

// Choose returns the number of subsets with k elements of a set with n elements.
func Choose(n, k int) (uint64, api.Errno) {
	if n < 0 || n > maxElements {
		return 0, api.ErrArgument
	}
	return choose(n, k), api.OK
}

// RankSubset returns the lexicographic rank of an increasing list among all increasing lists of its length with elements from 0 to n-1.
func RankSubset(n int, list []int) (uint64, api.Errno) {
	if n < 0 || n > maxElements || !isIncreasing(n, list) {
		return 0, api.ErrArgument
	}
	rank := uint64(0)
	next := 0
	for i, element := range list {
		for smaller := next; smaller < element; smaller++ {
			rank += choose(n-1-smaller, len(list)-1-i)
		}
		next = element + 1
	}
	return rank, api.OK
}

// UnrankSubset returns the increasing list of length k with elements from 0 to n-1 that has the given rank.
func UnrankSubset(n, k int, rank uint64) ([]int, api.Errno) {
	count, e := Choose(n, k)
	// There is no list, and so no rank, if k is not from 0 to n.
	if e != api.OK || rank >= count {
		return nil, api.ErrArgument
	}
	var list []int
	for element := range n {
		// Once the list is complete, no list goes on with the element.
		with := choose(n-1-element, k-1-len(list))
		if rank < with {
			list = append(list, element)
		} else {
			rank -= with
		}
	}
	return list, api.OK
}

// choose is Choose, for n from 0 to maxElements.
func choose(n, k int) uint64 {
	if k < 0 || k > n {
		return 0
	}
	count := uint64(1)
	for i := range k {
		// The product is i + 1 times the number for i + 1, so the division is exact; it is less than 2^62.
		count = count * uint64(n-i) / uint64(i+1)
	}
	return count
}

// isIncreasing reports whether a list is strictly increasing, with elements from 0 to n-1.
func isIncreasing(n int, list []int) bool {
	next := 0
	for _, element := range list {
		if element < next || element >= n {
			return false
		}
		next = element + 1
	}
	return true
}
