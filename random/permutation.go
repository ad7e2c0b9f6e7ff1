package random

import (
	"slices"

	"plexus/api"
)

// maxPermutation is the largest number of elements whose permutations have ranks of 64 bits.
const maxPermutation = 20

// RankPermutation returns the lexicographic rank of a permutation of 0 to len(p)-1.
func RankPermutation(p []int) (uint64, api.Errno) {
	if !isPermutation(p) {
		return 0, api.ErrArgument
	}
	rank := uint64(0)
	for i, element := range p {
		smaller := 0
		for _, later := range p[i+1:] {
			if later < element {
				smaller++
			}
		}
		// Each beginning that comes before p[:i] goes on with any of the len(p)-i elements that are left.
		rank = rank*uint64(len(p)-i) + uint64(smaller)
	}
	return rank, api.OK
}

// UnrankPermutation returns the permutation of 0 to n-1 with the given lexicographic rank.
func UnrankPermutation(n int, rank uint64) ([]int, api.Errno) {
	if n < 0 || n > maxPermutation || rank >= factorial(n) {
		return nil, api.ErrArgument
	}
	p := make([]int, n)
	left := numbers(n)
	for i := range n {
		perElement := factorial(n - 1 - i)
		at := int(rank / perElement)
		rank %= perElement
		p[i] = left[at]
		left = slices.Delete(left, at, at+1)
	}
	return p, api.OK
}

// isPermutation reports whether p is a permutation of 0 to len(p)-1 that has a rank.
func isPermutation(p []int) bool {
	if len(p) > maxPermutation {
		return false
	}
	var seen [maxPermutation]bool
	for _, element := range p {
		if element < 0 || element >= len(p) || seen[element] {
			return false
		}
		seen[element] = true
	}
	return true
}

// factorial returns the number of permutations of n elements, for n from 0 to maxPermutation.
func factorial(n int) uint64 {
	product := uint64(1)
	for i := range n {
		product *= uint64(i + 1)
	}
	return product
}
