package finite

import (
	"slices"

	"plexus/api"
)

// Check returns the first law that a table violates.
func Check(table [][]int) (Violation, api.Errno) {
	if !isTable(table) {
		return Violation{}, api.ErrArgument
	}
	for _, violation := range []func(table [][]int) Violation{ofIdempotence, ofCommutativity, ofAssociativity, ofBottom} {
		if v := violation(table); v.Law != 0 {
			return v, api.OK
		}
	}
	return Violation{}, api.OK
}

// Covers returns the pairs (i, j) for which j covers i.
func Covers(table [][]int) ([][2]int, api.Errno) {
	if e := check(table); e != api.OK {
		return nil, e
	}
	var pairs [][2]int
	for i := range len(table) {
		for j := range len(table) {
			if isCovered(table, i, j) {
				pairs = append(pairs, [2]int{i, j})
			}
		}
	}
	return pairs, api.OK
}

// Height returns the number of steps of a longest chain.
func Height(table [][]int) (int, api.Errno) {
	if e := check(table); e != api.OK {
		return 0, e
	}
	steps := make([]int, len(table)) // of a longest chain up to an element
	for _, j := range ascending(table) {
		for i := range len(table) {
			if isBelow(table, i, j) {
				steps[j] = max(steps[j], steps[i]+1)
			}
		}
	}
	return slices.Max(steps), api.OK
}

// Meets returns the meet table of a join table.
func Meets(table [][]int) ([][]int, api.Errno) {
	if e := check(table); e != api.OK {
		return nil, e
	}
	return meets(table), api.OK
}

// Irreducibles returns the join-irreducible elements.
func Irreducibles(table [][]int) ([]int, api.Errno) {
	if e := check(table); e != api.OK {
		return nil, e
	}
	reducible := make([]bool, len(table))
	reducible[bottom(table)] = true
	for i := range len(table) {
		for j, joined := range table[i] {
			if joined != i && joined != j {
				reducible[joined] = true
			}
		}
	}
	var list []int
	for i := range len(table) {
		if !reducible[i] {
			list = append(list, i)
		}
	}
	return list, api.OK
}

// Distributive reports whether the lattice of a join table is distributive.
func Distributive(table [][]int) (bool, api.Errno) {
	if e := check(table); e != api.OK {
		return false, e
	}
	meet := meets(table)
	for i := range len(table) {
		for j := range len(table) {
			for k, joined := range table[j] {
				if meet[i][joined] != table[meet[i][j]][meet[i][k]] {
					return false, api.OK
				}
			}
		}
	}
	return true, api.OK
}

// check returns the error of a call that needs the table of a lattice.
func check(table [][]int) api.Errno {
	v, e := Check(table)
	if v.Law != 0 {
		return api.ErrType
	}
	return e
}

// isTable reports whether there are 1 to MaxValues rows, each of as many numbers, which are indices of rows.
func isTable(table [][]int) bool {
	n := len(table)
	if n < 1 || n > MaxValues {
		return false
	}
	isOther := func(k int) bool { return k < 0 || k >= n }
	return !slices.ContainsFunc(table, func(row []int) bool { return len(row) != n || slices.ContainsFunc(row, isOther) })
}

// square returns n rows of n zeros.
func square(n int) [][]int {
	rows := make([][]int, n)
	for i := range n {
		rows[i] = make([]int, n)
	}
	return rows
}
