package finite

import (
	"cmp"
	"slices"
)

// bottom returns the element of a commutative table whose join with each element is that element, or -1 if there is none.
func bottom(table [][]int) int {
	return slices.IndexFunc(table, func(row []int) bool {
		for i := range len(row) {
			if row[i] != i {
				return false
			}
		}
		return true
	})
}

// isBelow reports whether i is strictly below j in a lattice.
func isBelow(table [][]int, i, j int) bool { return i != j && table[i][j] == j }

// isCovered reports whether i is strictly below j in a lattice, and nothing lies between them.
func isCovered(table [][]int, i, j int) bool {
	if !isBelow(table, i, j) {
		return false
	}
	for k := range len(table) {
		if isBelow(table, i, k) && isBelow(table, k, j) {
			return false
		}
	}
	return true
}

// ascending returns the elements of a lattice, each behind all that are below it.
func ascending(table [][]int) []int {
	below := make([]int, len(table)) // how many elements are below one
	list := make([]int, len(table))
	for j := range len(table) {
		list[j] = j
		for i := range len(table) {
			if isBelow(table, i, j) {
				below[j]++
			}
		}
	}
	slices.SortFunc(list, func(i, j int) int { return cmp.Compare(below[i], below[j]) })
	return list
}

// meets returns the meet table of a lattice.
func meets(table [][]int) [][]int {
	least := bottom(table)
	rows := square(len(table))
	for i := range len(table) {
		for j := range len(table) {
			// The meet is the join of all lower bounds.
			rows[i][j] = least
			for k := range len(table) {
				if table[k][i] == i && table[k][j] == j {
					rows[i][j] = table[rows[i][j]][k]
				}
			}
		}
	}
	return rows
}
