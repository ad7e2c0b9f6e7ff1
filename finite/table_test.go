package finite_test

import (
	"math"
	"math/rand"
	"slices"
	"testing"

	"plexus/api"
	"plexus/finite"
	"plexus/sample"
)

// TestCheck covers P14.3 for ordinary tables, the chapter's third example among them.
func TestCheck(t *testing.T) {
	type violation = finite.Violation
	for i, c := range []struct {
		table [][]int
		want  violation
	}{
		{[][]int{{0}}, violation{}}, {[][]int{{0, 1}, {1, 1}}, violation{}}, {[][]int{{0, 0}, {0, 1}}, violation{}}, {[][]int{{0, 0, 2}, {0, 1, 2}, {2, 2, 2}}, violation{}},
		{[][]int{{1, 1}, {0, 0}}, violation{Law: finite.LawIdempotent}}, {[][]int{{0, 1, 2}, {0, 1, 2}, {0, 1, 1}}, violation{Law: finite.LawIdempotent, A: 2}},
		{[][]int{{0, 1}, {0, 1}}, violation{Law: finite.LawCommutative, B: 1}}, {[][]int{{0, 1, 2}, {1, 1, 2}, {1, 2, 2}}, violation{Law: finite.LawCommutative, B: 2}}, {[][]int{{0, 1, 2}, {1, 1, 2}, {2, 1, 2}}, violation{Law: finite.LawCommutative, A: 1, B: 2}},
		{[][]int{{0, 1, 0}, {1, 1, 2}, {0, 2, 2}}, violation{Law: finite.LawAssociative, B: 1, C: 2}}, {[][]int{{0, 1, 2, 3}, {1, 1, 1, 3}, {2, 1, 2, 2}, {3, 3, 2, 3}}, violation{Law: finite.LawAssociative, A: 1, B: 2, C: 3}},
		{[][]int{{0, 2, 2}, {2, 1, 2}, {2, 2, 2}}, violation{Law: finite.LawBottom}},
	} {
		if v, e := finite.Check(c.table); v != c.want || e != api.OK {
			t.Errorf("case %d: %v, %d", i, v, e)
		}
	}
}

// firstViolation computes the definition: it tries all counterexamples of the laws in their order.
func firstViolation(table [][]int) finite.Violation {
	n := len(table)
	violates := func(law, a, b, c int) bool {
		switch law {
		case finite.LawIdempotent:
			return b == 0 && c == 0 && table[a][a] != a
		case finite.LawCommutative:
			return c == 0 && a < b && table[a][b] != table[b][a]
		}
		return table[table[a][b]][c] != table[a][table[b][c]]
	}
	for law := finite.LawIdempotent; law <= finite.LawAssociative; law++ {
		for at := range n * n * n {
			if a, b, c := at/n/n, at/n%n, at%n; violates(law, a, b, c) {
				return finite.Violation{Law: law, A: a, B: b, C: c}
			}
		}
	}
	for b := range n {
		neutral := 0
		for i := range n {
			if table[b][i] == i && table[i][b] == i {
				neutral++
			}
		}
		if neutral == n {
			return finite.Violation{}
		}
	}
	return finite.Violation{Law: finite.LawBottom}
}

// results returns the errors of the functions that need a lattice, and whether all other results are zero.
func results(table [][]int) ([]api.Errno, bool) {
	pairs, e1 := finite.Covers(table)
	height, e2 := finite.Height(table)
	meets, e3 := finite.Meets(table)
	list, e4 := finite.Irreducibles(table)
	is, e5 := finite.Distributive(table)
	return []api.Errno{e1, e2, e3, e4, e5}, len(pairs) == 0 && height == 0 && len(meets) == 0 && len(list) == 0 && !is
}

// TestSmallTables covers P14.3 for all tables of up to three elements and random larger ones, and the error ErrType.
func TestSmallTables(t *testing.T) {
	var tables [][][]int
	for n := 1; n <= 3; n++ {
		pool := []int{0, 1, 2}[:n]
		for _, list := range sample.Lists(pool, n*n) {
			if len(list) == n*n {
				tables = append(tables, slices.Collect(slices.Chunk(list, n)))
			}
		}
	}
	source := rand.New(rand.NewSource(1))
	for range 2000 {
		tables = append(tables, damaged(source, tableOf(family(source))))
	}
	found := map[int]int{}
	for _, table := range tables {
		want := firstViolation(table)
		found[want.Law]++
		if v, e := finite.Check(table); v != want || e != api.OK {
			t.Fatalf("Check(%v): %v, %d, not %v", table, v, e, want)
		}
		wanted := api.ErrType
		if want.Law == 0 {
			wanted = api.OK
		}
		errors, zero := results(table)
		if slices.ContainsFunc(errors, func(e api.Errno) bool { return e != wanted }) || wanted != api.OK && !zero {
			t.Fatalf("%v: %v", table, errors)
		}
	}
	for law := range finite.LawBottom + 1 {
		if found[law] < 10 {
			t.Errorf("only %d tables with the violation %d", found[law], law)
		}
	}
}

// damaged returns a table with a few other joins.
func damaged(source *rand.Rand, table [][]int) [][]int {
	for range source.Intn(3) {
		i, k, joined := source.Intn(len(table)), source.Intn(len(table)), source.Intn(len(table))
		table[i][k] = joined
		if source.Intn(4) > 0 {
			table[k][i] = joined
		}
	}
	return table
}

// family returns different sets, as numbers, in any order: with the empty set, and the union of any two of them. So they are a lattice, ordered by inclusion.
func family(source *rand.Rand) []int {
	list := []int{0}
	for range source.Intn(7) {
		added := source.Intn(1 << 5)
		for _, set := range slices.Clone(list) {
			if !slices.Contains(list, set|added) {
				list = append(list, set|added)
			}
		}
	}
	source.Shuffle(len(list), func(i, k int) { list[i], list[k] = list[k], list[i] })
	return list
}

// tableOf returns the table of a family.
func tableOf(sets []int) [][]int {
	table := make([][]int, len(sets))
	for i, a := range sets {
		for _, b := range sets {
			table[i] = append(table[i], slices.Index(sets, a|b))
		}
	}
	return table
}

// includes reports whether a set includes another one.
func includes(set, part int) bool { return part&^set == 0 }

// heightOf returns the number of steps of a longest chain down from a set of a family.
func heightOf(sets []int, top int) int {
	steps := 0
	for _, set := range sets {
		if set != top && includes(top, set) {
			steps = max(steps, heightOf(sets, set)+1)
		}
	}
	return steps
}

// meetOf returns the index of the greatest set of a family that two sets include.
func meetOf(sets []int, a, b int) int {
	var lower []int
	for _, set := range sets {
		if includes(a&b, set) {
			lower = append(lower, set)
		}
	}
	return slices.IndexFunc(sets, func(set int) bool {
		return slices.Contains(lower, set) && !slices.ContainsFunc(lower, func(other int) bool { return !includes(set, other) })
	})
}

// TestLattices covers P14.4 to P14.6 for random lattices whose elements are in any order, computed from the definitions.
func TestLattices(t *testing.T) {
	source := rand.New(rand.NewSource(2))
	distributive, others := 0, 0
	for range 400 {
		sets := family(source)
		table := tableOf(sets)
		covers, e1 := finite.Covers(table)
		height, e2 := finite.Height(table)
		meets, e3 := finite.Meets(table)
		list, e4 := finite.Irreducibles(table)
		is, e5 := finite.Distributive(table)
		if e1 != api.OK || e2 != api.OK || e3 != api.OK || e4 != api.OK || e5 != api.OK {
			t.Fatalf("%v: %d, %d, %d, %d, %d", table, e1, e2, e3, e4, e5)
		}
		var wantedCovers [][2]int
		var wantedList []int
		wantedMeets := make([][]int, len(sets))
		for i, a := range sets {
			joined := 0 // of all sets that a includes
			for k, b := range sets {
				between := func(c int) bool { return includes(b, c) && includes(c, a) && c != a && c != b }
				if includes(b, a) && a != b && !slices.ContainsFunc(sets, between) {
					wantedCovers = append(wantedCovers, [2]int{i, k})
				}
				if includes(a, b) && a != b {
					joined |= b
				}
				wantedMeets[i] = append(wantedMeets[i], meetOf(sets, a, b))
			}
			if joined != a {
				wantedList = append(wantedList, i)
			}
		}
		if !slices.Equal(covers, wantedCovers) || height != heightOf(sets, unionOf(sets)) || !sameTables(meets, wantedMeets) || !slices.Equal(list, wantedList) || is != isDistributive(table, wantedMeets) {
			t.Fatalf("%v: Covers %v, Height %d, Meets %v, Irreducibles %v, Distributive %t", table, covers, height, meets, list, is)
		}
		checkLaws(t, table)
		if is {
			distributive++
		} else {
			others++
		}
	}
	if distributive < 50 || others < 50 {
		t.Errorf("only %d distributive lattices and %d others", distributive, others)
	}
}

// unionOf returns the union of all sets.
func unionOf(sets []int) int {
	union := 0
	for _, set := range sets {
		union |= set
	}
	return union
}

// isDistributive computes the definition.
func isDistributive(joins, meets [][]int) bool {
	for i := range joins {
		for j := range joins {
			for k := range joins {
				if meets[i][joins[j][k]] != joins[meets[i][j]][meets[i][k]] {
					return false
				}
			}
		}
	}
	return true
}

// TestPlainLattices covers P14.4 and P14.5 for lattices that are known well.
func TestPlainLattices(t *testing.T) {
	pentagon := []int{7, 0, 4, 5, 3} // the sets 4 and 5 are a chain beside 3
	diamond := []int{6, 5, 3, 7, 0}
	cube := []int{0, 1, 2, 3, 4, 5, 6, 7}
	chain := []int{3, 1, 7, 0, 15}
	for i, c := range []struct {
		sets         []int
		covers       [][2]int
		height       int
		irreducible  []int
		distributive bool
	}{
		{[]int{0}, nil, 0, nil, true}, {[]int{1, 0}, [][2]int{{1, 0}}, 1, []int{0}, true},
		{pentagon, [][2]int{{1, 2}, {1, 4}, {2, 3}, {3, 0}, {4, 0}}, 3, []int{2, 3, 4}, false},
		{diamond, [][2]int{{0, 3}, {1, 3}, {2, 3}, {4, 0}, {4, 1}, {4, 2}}, 2, []int{0, 1, 2}, false},
		{cube, [][2]int{{0, 1}, {0, 2}, {0, 4}, {1, 3}, {1, 5}, {2, 3}, {2, 6}, {3, 7}, {4, 5}, {4, 6}, {5, 7}, {6, 7}}, 3, []int{1, 2, 4}, true},
		{chain, [][2]int{{0, 2}, {1, 0}, {2, 4}, {3, 1}}, 4, []int{0, 1, 2, 4}, true},
	} {
		table := tableOf(c.sets)
		covers, e1 := finite.Covers(table)
		height, e2 := finite.Height(table)
		list, e3 := finite.Irreducibles(table)
		is, e4 := finite.Distributive(table)
		if e1 != api.OK || e2 != api.OK || e3 != api.OK || e4 != api.OK {
			t.Errorf("case %d: %d, %d, %d, %d", i, e1, e2, e3, e4)
		}
		if !slices.Equal(covers, c.covers) || height != c.height || !slices.Equal(list, c.irreducible) || is != c.distributive {
			t.Errorf("case %d: Covers %v, Height %d, Irreducibles %v, Distributive %t", i, covers, height, list, is)
		}
	}
}

// TestNoTables covers the error ErrArgument, which comes first.
func TestNoTables(t *testing.T) {
	zeros := func(rows, columns int) [][]int {
		var table [][]int
		for range rows {
			table = append(table, make([]int, columns))
		}
		return table
	}
	for i, table := range [][][]int{
		nil, {}, {nil}, {{}}, {{1}}, {{-1}}, {{0, 0}}, {{0}, {0}}, {{0, 1}, {1}}, {{0, 1}, nil}, {{0}, {1, 1}}, {{0, 1}, {1, 1, 1}}, {{0, 1}, {1, 2}}, {{0, 1}, {-1, 1}}, {{0, math.MaxInt}, {1, 1}}, {{math.MinInt, 1}, {1, 1}}, {{1, 1}, {0, 2}}, zeros(257, 257), zeros(257, 256), zeros(256, 257), zeros(2000, 2000),
	} {
		if v, e := finite.Check(table); v != (finite.Violation{}) || e != api.ErrArgument {
			t.Errorf("case %d: Check: %v, %d", i, v, e)
		}
		errors, zero := results(table)
		if slices.ContainsFunc(errors, func(e api.Errno) bool { return e != api.ErrArgument }) || !zero {
			t.Errorf("case %d: %v", i, errors)
		}
	}
	if v, e := finite.Check(zeros(256, 256)); v != (finite.Violation{Law: finite.LawIdempotent, A: 1}) || e != api.OK {
		t.Errorf("Check of a large table: %v, %d", v, e)
	}
}

// TestTablesShareNothing covers the rules: tables are not modified, and results share no memory with them or with each other.
func TestTablesShareNothing(t *testing.T) {
	source := rand.New(rand.NewSource(3))
	for range 50 {
		table := tableOf(family(source))
		var kept [][]int
		for _, row := range table {
			kept = append(kept, slices.Clone(row))
		}
		finite.Check(table)
		finite.Covers(table)
		finite.Height(table)
		finite.Distributive(table)
		meets, _ := finite.Meets(table)
		again, _ := finite.Meets(table)
		list, _ := finite.Irreducibles(table)
		if !sameTables(table, kept) {
			t.Fatalf("%v was modified", kept)
		}
		if !areApart(slices.Concat(table, meets, again, [][]int{list})) {
			t.Fatalf("memory of %v is shared", kept)
		}
	}
	for _, l := range sample.Finite() {
		table, _ := finite.Table(l)
		again, _ := finite.Table(l)
		if !areApart(slices.Concat(table, again)) {
			t.Fatalf("rows of the table of %v share memory", l)
		}
	}
}

// areApart reports whether no two rows share memory: it writes into all of them, and behind their ends.
func areApart(rows [][]int) bool {
	next := 0
	for _, row := range rows {
		for i := range row {
			row[i] = next
			next++
		}
		_ = append(row, -1)
	}
	want := 0
	for _, row := range rows {
		for _, n := range row {
			if n != want {
				return false
			}
			want++
		}
	}
	return true
}
