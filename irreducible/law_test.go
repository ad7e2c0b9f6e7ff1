package irreducible_test

import (
	"math/rand"
	"slices"
	"testing"

	"plexus/api"
	"plexus/irreducible"
	"plexus/join"
	"plexus/lattice"
	"plexus/sample"
	"plexus/value"
)

// tables returns the elements of many descriptions and their order, computed from the definitions.
func tables() []*sample.Table {
	return sample.NewTables(append(sample.Finite(), sample.Nested()...))
}

// distributive returns the tables of descriptions without a Flat or a Closed.
func distributive() []*sample.Table {
	return slices.DeleteFunc(tables(), func(table *sample.Table) bool { return !lattice.Distributive(table.Lattice) })
}

// hasRegister reports whether a description has a node of the kind Register.
func hasRegister(l api.Lattice) bool {
	return l.Kind == api.Register || slices.ContainsFunc(l.Parts, hasRegister)
}

// isIrreducible computes the definition: whether the element with the index i is not the join of all that are below it. Of no elements, the join is the bottom.
func isIrreducible(table *sample.Table, i int) bool {
	var below []int
	for k := range table.All {
		if table.Less(k, i) {
			below = append(below, k)
		}
	}
	return table.Upper(below...) != i
}

// irreducibles returns the indices of the irreducible elements that are below or equal to the one with the index i.
func irreducibles(table *sample.Table, i int) []int {
	var list []int
	for k := range table.All {
		if table.Leq(k, i) && isIrreducible(table, k) {
			list = append(list, k)
		}
	}
	return list
}

// isIrredundant computes the definition of Irredundant for the elements with some indices.
func isIrredundant(table *sample.Table, list []int) bool {
	for i, x := range list {
		others := slices.Delete(slices.Clone(list), i, i+1)
		if table.Leq(x, table.Upper(others...)) {
			return false
		}
	}
	return true
}

// TestIrreducibleElements covers P12.1 for all elements: they are no joins of lesser ones.
func TestIrreducibleElements(t *testing.T) {
	for _, table := range tables() {
		for i, v := range table.All {
			want := isIrreducible(table, i)
			if is, e := irreducible.Irreducible(table.Lattice, v); e != api.OK || is != want {
				t.Errorf("Irreducible(%v, %v): %t, %d", table.Lattice, v, is, e)
			}
		}
	}
}

// TestIrredundantLists covers P12.1 for random lists.
func TestIrredundantLists(t *testing.T) {
	source := rand.New(rand.NewSource(1))
	long := 0
	for _, table := range tables() {
		// Lists of irreducible values alone are more often irredundant.
		pool := append(allOf(table), slices.Repeat(irreducibles(table, table.Upper(allOf(table)...)), 4)...)
		for range 200 {
			var list []int
			for range source.Intn(5) {
				list = append(list, pool[source.Intn(len(pool))])
			}
			want := isIrredundant(table, list)
			if is, e := irreducible.Irredundant(table.Lattice, table.Pick(list...)); e != api.OK || is != want {
				t.Fatalf("Irredundant(%v, %v): %t, %d", table.Lattice, table.Pick(list...), is, e)
			}
			if want && len(list) > 2 {
				long++
			}
		}
	}
	if long < 20 {
		t.Errorf("only %d long lists that are irredundant", long)
	}
}

// TestDecompositions covers P12.2 for all elements: the decomposition consists of the greatest irreducible values, in the order of values, and its join is the element.
func TestDecompositions(t *testing.T) {
	for _, table := range distributive() {
		for i, v := range table.All {
			below := irreducibles(table, i)
			greatest := slices.DeleteFunc(slices.Clone(below), func(k int) bool {
				return slices.ContainsFunc(below, func(other int) bool { return table.Less(k, other) })
			})
			want := table.Pick(greatest...)
			slices.SortFunc(want, value.Compare)
			got, e := irreducible.Decompose(table.Lattice, v)
			if e != api.OK || !slices.EqualFunc(got, want, sample.Same) {
				t.Fatalf("Decompose(%v, %v): %v, %d", table.Lattice, v, got, e)
			}
			joined, _ := join.JoinAll(table.Lattice, got)
			if is, _ := irreducible.Irredundant(table.Lattice, got); !is || !sample.Same(joined, v) {
				t.Fatalf("%v in %v: %v is no decomposition", v, table.Lattice, got)
			}
		}
	}
}

// TestOneDecomposition covers P12.2: of all sets of irreducible values, one is the decomposition; and an irreducible value below a join is below one of the joined values.
func TestOneDecomposition(t *testing.T) {
	count := 0
	for _, table := range distributive() {
		all := irreducibles(table, table.Upper(allOf(table)...))
		if len(all) > 7 {
			continue
		}
		found := map[int]int{}
		for mask := range 1 << len(all) {
			var list []int
			for i, k := range all {
				if mask>>i&1 == 1 {
					list = append(list, k)
				}
			}
			joined := table.Upper(list...)
			if is, e := irreducible.Irredundant(table.Lattice, table.Pick(list...)); e == api.OK && is {
				found[joined]++
			}
			for _, x := range all {
				if table.Leq(x, joined) && !slices.ContainsFunc(list, func(y int) bool { return table.Leq(x, y) }) {
					t.Fatalf("%v in %v is below the join of %v", table.All[x], table.Lattice, table.Pick(list...))
				}
			}
		}
		for i, v := range table.All {
			if found[i] != 1 {
				t.Fatalf("%v in %v has %d decompositions", v, table.Lattice, found[i])
			}
			count++
		}
	}
	if count < 100 {
		t.Errorf("only %d elements", count)
	}
}

// allOf returns all indices.
func allOf(table *sample.Table) []int {
	list := make([]int, len(table.All))
	for i := range list {
		list[i] = i
	}
	return list
}

// TestDifferences covers P12.3 and P12.4 for all pairs of elements: a difference adds to b what a adds and nothing else, and it is the least such value if the description is distributive.
func TestDifferences(t *testing.T) {
	for _, table := range tables() {
		l := table.Lattice
		least := table.Upper()
		for i, a := range table.All {
			for k, b := range table.All {
				d, e := irreducible.Diff(l, a, b)
				at := slices.IndexFunc(table.All, func(v api.Value) bool { return sample.Same(v, d) })
				if e != api.OK || at < 0 || !table.Leq(at, i) || table.Upper(at, k) != table.Upper(i, k) || (at == least) != table.Leq(i, k) {
					t.Fatalf("Diff(%v, %v) in %v: %v, %d", a, b, l, d, e)
				}
				// In large tables, the least one is found for some pairs only.
				if !lattice.Distributive(l) || len(table.All) > 40 && (i+k)%7 > 0 {
					continue
				}
				both := table.Upper(i, k)
				if at != table.Least(func(x int) bool { return table.Upper(x, k) == both }) {
					t.Fatalf("Diff(%v, %v) in %v: %v is not the least", a, b, l, d)
				}
			}
		}
	}
}

// TestLawsOfDifferences covers P12.4: differences of joins, and from joins.
func TestLawsOfDifferences(t *testing.T) {
	source := rand.New(rand.NewSource(2))
	for _, table := range distributive() {
		l := table.Lattice
		or := func(a, b api.Value) api.Value { v, _ := join.Join(l, a, b); return v }
		minus := func(a, b api.Value) api.Value { v, _ := irreducible.Diff(l, a, b); return v }
		for range 300 {
			a, b, c := table.All[source.Intn(len(table.All))], table.All[source.Intn(len(table.All))], table.All[source.Intn(len(table.All))]
			if x, y := minus(or(a, b), c), or(minus(a, c), minus(b, c)); !sample.Same(x, y) {
				t.Fatalf("the join of %v and %v minus %v in %v: %v and %v", a, b, c, l, x, y)
			}
			if x, y := minus(a, or(b, c)), minus(minus(a, b), c); !sample.Same(x, y) {
				t.Fatalf("%v minus the join of %v and %v in %v: %v and %v", a, b, c, l, x, y)
			}
		}
	}
}

// TestRanks covers P12.5 for all elements: the rank counts irreducible values, grows strictly, and is modular.
func TestRanks(t *testing.T) {
	count := 0
	for _, table := range distributive() {
		l := table.Lattice
		if !isRanked(l) {
			if n, e := irreducible.Rank(l, table.All[0]); e != api.ErrState || n != 0 {
				t.Errorf("Rank in %v: %d, %d", l, n, e)
			}
			continue
		}
		count++
		ranks := make([]int64, len(table.All))
		for i, v := range table.All {
			n, e := irreducible.Rank(l, v)
			if e != api.OK || n != int64(len(irreducibles(table, i))) {
				t.Fatalf("Rank(%v, %v): %d, %d", l, v, n, e)
			}
			ranks[i] = n
		}
		if ranks[table.Upper()] != 0 {
			t.Errorf("the rank of the bottom of %v: %d", l, ranks[table.Upper()])
		}
		for i := range table.All {
			for k := range table.All {
				if table.Less(i, k) && ranks[i] >= ranks[k] || ranks[table.Upper(i, k)]+ranks[table.Lower(i, k)] != ranks[i]+ranks[k] {
					t.Fatalf("the ranks of %v and %v in %v: %d and %d", table.All[i], table.All[k], l, ranks[i], ranks[k])
				}
			}
		}
	}
	if count < 20 {
		t.Errorf("only %d descriptions with ranks", count)
	}
}

// isRanked computes the definition of when the rank in a distributive description is defined.
func isRanked(l api.Lattice) bool {
	if l.Kind == api.Lex && !lattice.Finite(l.Parts[1]) {
		return false
	}
	return !hasRegister(l) && !slices.ContainsFunc(l.Parts, func(part api.Lattice) bool { return !isRanked(part) })
}
