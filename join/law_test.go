package join_test

import (
	"math/rand"
	"slices"
	"testing"

	"plexus/api"
	"plexus/join"
	"plexus/lattice"
	"plexus/sample"
	"plexus/value"
)

// eachTable calls check with the elements of many descriptions and their order, computed from the definitions.
func eachTable(t *testing.T, check func(table *sample.Table)) {
	t.Helper()
	for _, table := range sample.NewTables(append(sample.Finite(), sample.Nested()...)) {
		if slices.ContainsFunc(table.All, func(v api.Value) bool { return !value.Valid(table.Lattice, v) }) {
			t.Fatalf("the sample of %v is wrong", table.Lattice)
		}
		check(table)
	}
}

// someIndices returns up to n indices of elements.
func someIndices(source *rand.Rand, table *sample.Table, n int) []int {
	var list []int
	for range source.Intn(n + 1) {
		list = append(list, source.Intn(len(table.All)))
	}
	return list
}

// TestOrder covers P11.1 and P11.6 for all pairs of elements: the order is the defined one, and a partial order with its bounds.
func TestOrder(t *testing.T) {
	eachTable(t, func(table *sample.Table) {
		l := table.Lattice
		least, _ := value.Bottom(l)
		greatest, hasTop := value.Top(l)
		for i, a := range table.All {
			for k, b := range table.All {
				if join.Leq(l, a, b) != table.Leq(i, k) || join.Comparable(l, a, b) != (table.Leq(i, k) || table.Leq(k, i)) {
					t.Fatalf("%v and %v in %v: Leq %t, Comparable %t", a, b, l, join.Leq(l, a, b), join.Comparable(l, a, b))
				}
				if table.Leq(i, k) && table.Leq(k, i) != sample.Same(a, b) {
					t.Fatalf("%v and %v in %v are below each other", a, b, l)
				}
			}
			if !join.Leq(l, least, a) || hasTop == api.OK && !join.Leq(l, a, greatest) {
				t.Fatalf("%v in %v is not between the bounds", a, l)
			}
		}
	})
}

// TestBounds covers P11.2, P11.3 and P11.6 for all pairs of elements: among all upper bounds the join is the least, and among all lower bounds the meet is the greatest.
func TestBounds(t *testing.T) {
	eachTable(t, func(table *sample.Table) {
		l := table.Lattice
		for i, a := range table.All {
			for k, b := range table.All {
				if v, e := join.Join(l, a, b); e != api.OK || !sample.Same(v, table.All[table.Upper(i, k)]) {
					t.Fatalf("Join(%v, %v) in %v: %v, %d", a, b, l, v, e)
				}
				v, e := join.Meet(l, a, b)
				switch {
				case hasRegister(l) && (e != api.ErrNone || !sample.Same(v, api.Value{})):
					t.Fatalf("Meet(%v, %v) in %v: %v, %d", a, b, l, v, e)
				case !hasRegister(l) && (e != api.OK || !sample.Same(v, table.All[table.Lower(i, k)])):
					t.Fatalf("Meet(%v, %v) in %v: %v, %d", a, b, l, v, e)
				}
			}
		}
	})
}

// TestLaws covers P11.6: the laws of joins and meets, which are distributive if the description is.
func TestLaws(t *testing.T) {
	source := rand.New(rand.NewSource(1))
	eachTable(t, func(table *sample.Table) {
		l := table.Lattice
		or := func(a, b api.Value) api.Value { v, _ := join.Join(l, a, b); return v }
		and := func(a, b api.Value) api.Value { v, _ := join.Meet(l, a, b); return v }
		for range 200 {
			a, b, c := table.All[source.Intn(len(table.All))], table.All[source.Intn(len(table.All))], table.All[source.Intn(len(table.All))]
			same := func(law string, x, y api.Value) {
				t.Helper()
				if !sample.Same(x, y) {
					t.Fatalf("%s of %v, %v and %v in %v: %v and %v", law, a, b, c, l, x, y)
				}
			}
			same("joins commute", or(a, b), or(b, a))
			same("joins associate", or(or(a, b), c), or(a, or(b, c)))
			same("joins are idempotent", or(a, a), a)
			if hasRegister(l) {
				continue
			}
			same("meets commute", and(a, b), and(b, a))
			same("meets associate", and(and(a, b), c), and(a, and(b, c)))
			same("meets are idempotent", and(a, a), a)
			same("joins absorb", or(a, and(a, b)), a)
			same("meets absorb", and(a, or(a, b)), a)
			if lattice.Distributive(l) {
				same("meets distribute", and(a, or(b, c)), or(and(a, b), and(a, c)))
				same("joins distribute", or(a, and(b, c)), and(or(a, b), or(a, c)))
			}
		}
	})
}

// TestJoinAll covers P11.2 for lists, in any order and with repetitions.
func TestJoinAll(t *testing.T) {
	source := rand.New(rand.NewSource(2))
	eachTable(t, func(table *sample.Table) {
		for range 100 {
			list := someIndices(source, table, 6)
			if v, e := join.JoinAll(table.Lattice, table.Pick(list...)); e != api.OK || !sample.Same(v, table.All[table.Upper(list...)]) {
				t.Fatalf("JoinAll(%v) in %v: %v, %d", table.Pick(list...), table.Lattice, v, e)
			}
		}
	})
}

// TestChain covers P11.4 for lists that are chains, and for others.
func TestChain(t *testing.T) {
	source := rand.New(rand.NewSource(3))
	chains, others := 0, 0
	eachTable(t, func(table *sample.Table) {
		for range 200 {
			list := someIndices(source, table, 5)
			want, wanted := chainOf(table, list)
			got, ok := join.Chain(table.Lattice, table.Pick(list...))
			if ok != wanted || !slices.Equal(got, want) {
				t.Fatalf("Chain(%v) in %v: %v, %t", table.Pick(list...), table.Lattice, got, ok)
			}
			if ok && len(list) > 3 {
				chains++
			} else if !ok {
				others++
			}
		}
	})
	if chains < 100 || others < 100 {
		t.Errorf("only %d chains and %d other lists", chains, others)
	}
}

// chainOf computes the definition of Chain: the place of each element is the number of those before it.
func chainOf(table *sample.Table, list []int) ([]int, bool) {
	sorted := make([]int, len(list))
	for i, x := range list {
		place := 0
		for k, y := range list {
			if !table.Leq(x, y) && !table.Leq(y, x) {
				return nil, false
			}
			if table.Less(y, x) || x == y && k < i {
				place++
			}
		}
		sorted[place] = i
	}
	return sorted, true
}

// TestMaximal covers P11.5: what is below no other element, and of equal elements the first.
func TestMaximal(t *testing.T) {
	source := rand.New(rand.NewSource(4))
	eachTable(t, func(table *sample.Table) {
		for range 200 {
			list := someIndices(source, table, 7)
			var want []int
			for i, x := range list {
				if slices.Index(list, x) == i && !slices.ContainsFunc(list, func(y int) bool { return table.Less(x, y) }) {
					want = append(want, i)
				}
			}
			if got, e := join.Maximal(table.Lattice, table.Pick(list...)); e != api.OK || !slices.Equal(got, want) {
				t.Fatalf("Maximal(%v) in %v: %v, %d", table.Pick(list...), table.Lattice, got, e)
			}
		}
	})
}
