package finite

// The laws that Check examines.
const (
	LawIdempotent  = 1
	LawCommutative = 2
	LawAssociative = 3
	LawBottom      = 4
)

// Violation names a law that a table violates, with the elements of the least counterexample. Law is 0 if there is none.
type Violation struct {
	Law     int
	A, B, C int
}

// ofIdempotence returns the least violation of LawIdempotent, if there is one.
func ofIdempotence(table [][]int) Violation {
	for i := range len(table) {
		if table[i][i] != i {
			return Violation{Law: LawIdempotent, A: i}
		}
	}
	return Violation{}
}

// ofCommutativity returns the least violation of LawCommutative, if there is one.
func ofCommutativity(table [][]int) Violation {
	for i := range len(table) {
		for j := i + 1; j < len(table); j++ {
			if table[i][j] != table[j][i] {
				return Violation{Law: LawCommutative, A: i, B: j}
			}
		}
	}
	return Violation{}
}

// ofAssociativity returns the least violation of LawAssociative, if there is one.
func ofAssociativity(table [][]int) Violation {
	for i := range len(table) {
		for j := range len(table) {
			for k := range len(table) {
				if table[table[i][j]][k] != table[i][table[j][k]] {
					return Violation{Law: LawAssociative, A: i, B: j, C: k}
				}
			}
		}
	}
	return Violation{}
}

// ofBottom returns the violation of LawBottom, if there is no bottom.
func ofBottom(table [][]int) Violation {
	if bottom(table) < 0 {
		return Violation{Law: LawBottom}
	}
	return Violation{}
}
