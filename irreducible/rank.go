package irreducible

import (
	"plexus/api"
	"plexus/lattice"
)

// tooMany stands for all ranks that are greater than the greatest one that is returned.
const tooMany = api.MaxNumber + 1

// Rank returns how many irreducible values are below or equal to v.
func Rank(l api.Lattice, v api.Value) (int64, api.Errno) {
	if e := check(l, v); e != api.OK {
		return 0, e
	}
	if !lattice.Distributive(l) || !isRanked(l) {
		return 0, api.ErrState
	}
	n := rank(l, v)
	if n == tooMany {
		return 0, api.ErrRange
	}
	return n, api.OK
}

// isRanked reports whether finitely many irreducible values are below each element of a distributive description, by the kinds of its nodes.
func isRanked(l api.Lattice) bool {
	for i := range len(l.Parts) {
		if !isRanked(l.Parts[i]) {
			return false
		}
	}
	return l.Kind != api.Register && (l.Kind != api.Lex || lattice.Finite(l.Parts[1]))
}

// rank returns how many irreducible values are below or equal to an element, at most tooMany.
func rank(l api.Lattice, v api.Value) int64 {
	var sum int64
	switch l.Kind {
	case api.Max:
		return v.N - l.Lo
	case api.Min:
		return l.Hi - v.N
	case api.Set:
		return int64(len(v.Names))
	case api.Map:
		for i := range len(v.Parts) {
			sum = plus(sum, rank(l.Parts[0], v.Parts[i]))
		}
		return sum
	case api.Product:
		for i := range len(v.Parts) {
			sum = plus(sum, rank(l.Parts[i], v.Parts[i]))
		}
		return sum
	case api.Lex:
		return rankOfPair(rank(l.Parts[0], v.Parts[0]), total(l.Parts[1]), rank(l.Parts[1], v.Parts[1]))
	}
	return v.N
}

// total returns how many irreducible values a finite distributive description has, at most tooMany. They are counted without the top element, which can be large.
func total(l api.Lattice) int64 {
	var sum int64
	switch l.Kind {
	case api.Max, api.Min:
		return l.Hi - l.Lo
	case api.Set:
		return int64(len(l.Names))
	case api.Map:
		return times(int64(len(l.Names)), total(l.Parts[0]))
	case api.Product:
		for i := range len(l.Parts) {
			sum = plus(sum, total(l.Parts[i]))
		}
		return sum
	case api.Lex:
		all := total(l.Parts[1])
		return rankOfPair(total(l.Parts[0]), all, all)
	}
	return 1
}

// rankOfPair returns the rank of an element of a Lex. Its first part comes behind that many others, each of which is in one pair for each of all irreducible values of the second part; as many first parts, all but the least one, are in an irreducible pair with the bottom; and the rank last of the second part counts the other pairs with the same first part.
func rankOfPair(before, all, last int64) int64 {
	return plus(times(before, plus(all, 1)), last)
}

// plus returns the sum of two numbers from 0 to tooMany, at most tooMany.
func plus(a, b int64) int64 {
	return min(a+b, tooMany)
}

// times returns the product of two numbers from 0 to tooMany, at most tooMany.
func times(a, b int64) int64 {
	if a > 0 && b > tooMany/a {
		return tooMany
	}
	return a * b
}
