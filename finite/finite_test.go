package finite_test

import (
	"slices"
	"strconv"
	"testing"

	"plexus/api"
	"plexus/finite"
	"plexus/irreducible"
	"plexus/lattice"
	"plexus/sample"
	"plexus/value"
)

// Short names for what the tests are built with.
var (
	flag                                       = api.Lattice{Kind: api.Flag}
	bounds, words, mapOf, lex, product, closed = sample.Bounds, sample.Words, sample.MapOf, sample.Lex, sample.Product, sample.Closed
	number, named, parts, atom, keyed, written = sample.Number, sample.Named, sample.Parts, sample.Atom, sample.Keyed, sample.Written
)

// many returns n names in ascending order, for n up to 100.
func many(n int) []string {
	var list []string
	for i := range n {
		list = append(list, "n"+strconv.Itoa(i/10)+strconv.Itoa(i%10))
	}
	return list
}

// sameTables reports whether two tables are equal.
func sameTables(a, b [][]int) bool { return slices.EqualFunc(a, b, slices.Equal[[]int]) }

// TestExamples covers P14.1 to P14.5 for the chapter's first two examples.
func TestExamples(t *testing.T) {
	for i, c := range []struct {
		l            api.Lattice
		values       string
		covers       [][2]int
		height       int
		irreducible  []int
		distributive bool
		at, to, join int
	}{
		{api.Lattice{Kind: api.Product, Names: []string{"a", "b"}, Parts: []api.Lattice{bounds(api.Max, 0, 1), flag}}, "(a: 0, b: false) (a: 0, b: true) (a: 1, b: false) (a: 1, b: true)", [][2]int{{0, 1}, {0, 2}, {1, 3}, {2, 3}}, 2, []int{1, 2}, true, 1, 2, 3},
		{words(api.Flat, "a", "b", "c"), "? a b c !", [][2]int{{0, 1}, {0, 2}, {0, 3}, {1, 4}, {2, 4}, {3, 4}}, 2, []int{1, 2, 3}, false, 1, 2, 4},
	} {
		list, e := finite.Values(c.l)
		texts := ""
		for k, v := range list {
			if k > 0 {
				texts += " "
			}
			s, _ := value.Text(c.l, v)
			texts += s
		}
		n, e2 := finite.Count(c.l)
		if e != api.OK || e2 != api.OK || texts != c.values || n != len(list) {
			t.Errorf("case %d: %d values, %d: %s, %d", i, n, e2, texts, e)
		}
		table, e := finite.Table(c.l)
		if e != api.OK || len(table) != n || table[c.at][c.to] != c.join {
			t.Fatalf("case %d: Table: %v, %d", i, table, e)
		}
		if pairs, e := finite.Covers(table); e != api.OK || !slices.Equal(pairs, c.covers) {
			t.Errorf("case %d: Covers: %v, %d", i, pairs, e)
		}
		if height, e := finite.Height(table); e != api.OK || height != c.height {
			t.Errorf("case %d: Height: %d, %d", i, height, e)
		}
		if list, e := finite.Irreducibles(table); e != api.OK || !slices.Equal(list, c.irreducible) {
			t.Errorf("case %d: Irreducibles: %v, %d", i, list, e)
		}
		if is, e := finite.Distributive(table); e != api.OK || is != c.distributive {
			t.Errorf("case %d: Distributive: %t, %d", i, is, e)
		}
	}
}

// TestCount covers P14.1 for the kinds, and the greatest number of elements.
func TestCount(t *testing.T) {
	set, register, ab := api.Lattice{Kind: api.Set}, api.Lattice{Kind: api.Register}, []string{"a", "b"}
	free := closed(many(8))
	// The sets with all names and z are one more.
	above := closed(append(many(8), "z"))
	for _, name := range many(8) {
		above.Rules = append(above.Rules, api.Rule{If: []string{"z"}, Then: name})
	}
	large := flag
	for range 4 {
		large = mapOf(large, many(32)...)
	}
	single := bounds(api.Min, 7, 7)
	trivial := mapOf(mapOf(product(single, single), many(32)...), many(32)...)
	for i, c := range []struct {
		l    api.Lattice
		want int
		e    api.Errno
	}{
		{flag, 2, api.OK}, {bounds(api.Max, -2, 3), 6, api.OK}, {bounds(api.Min, -2, 3), 6, api.OK}, {single, 1, api.OK}, {words(api.Set, ab...), 4, api.OK}, {words(api.Flat, ab...), 4, api.OK}, {words(api.Flat, many(32)...), 34, api.OK}, {mapOf(bounds(api.Max, 0, 2), many(3)...), 27, api.OK}, {product(flag, words(api.Set, ab...), single), 8, api.OK}, {lex(bounds(api.Min, 0, 4), words(api.Flat, "a")), 15, api.OK}, {closed(ab, api.Rule{If: []string{"b"}, Then: "a"}), 3, api.OK}, {trivial, 1, api.OK},
		{bounds(api.Max, 0, 255), 256, api.OK}, {bounds(api.Max, 0, 256), 0, api.ErrLimit}, {bounds(api.Min, -128, 127), 256, api.OK}, {bounds(api.Min, -128, 128), 0, api.ErrLimit}, {bounds(api.Max, -1e9, 1e9), 0, api.ErrLimit},
		{words(api.Set, many(8)...), 256, api.OK}, {words(api.Set, many(9)...), 0, api.ErrLimit}, {words(api.Set, many(32)...), 0, api.ErrLimit},
		{mapOf(flag, many(8)...), 256, api.OK}, {mapOf(flag, many(9)...), 0, api.ErrLimit}, {mapOf(bounds(api.Max, 0, 15), ab...), 256, api.OK}, {mapOf(bounds(api.Max, 0, 16), ab...), 0, api.ErrLimit}, {mapOf(bounds(api.Max, 1, 256), "a"), 256, api.OK}, {mapOf(bounds(api.Max, 0, 256), "a"), 0, api.ErrLimit}, {large, 0, api.ErrLimit},
		{product(bounds(api.Max, 1, 16), bounds(api.Max, 1, 16)), 256, api.OK}, {product(bounds(api.Max, 1, 16), bounds(api.Max, 1, 17)), 0, api.ErrLimit}, {product(large, large, trivial), 0, api.ErrLimit}, {lex(bounds(api.Max, 1, 2), bounds(api.Max, 1, 128)), 256, api.OK}, {lex(bounds(api.Max, 1, 2), bounds(api.Max, 1, 129)), 0, api.ErrLimit}, {lex(bounds(api.Max, 0, 1e9), bounds(api.Max, 0, 1e9)), 0, api.ErrLimit},
		{free, 256, api.OK}, {above, 0, api.ErrLimit}, {product(free, trivial), 256, api.OK}, {closed(many(12)), 0, api.ErrLimit}, {product(above), 0, api.ErrLimit}, {mapOf(closed(many(4)), ab...), 256, api.OK},
		// Not finite by chapter 9, whether they are large or trivial.
		{set, 0, api.ErrType}, {register, 0, api.ErrType}, {api.Lattice{Kind: api.Flat}, 0, api.ErrType}, {mapOf(flag), 0, api.ErrType}, {mapOf(single), 0, api.ErrType}, {mapOf(set, "a"), 0, api.ErrType}, {product(large, register), 0, api.ErrType}, {lex(bounds(api.Max, 0, 1e9), set), 0, api.ErrType}, {product(flag, mapOf(mapOf(flag), "a")), 0, api.ErrType},
	} {
		if n, e := finite.Count(c.l); n != c.want || e != c.e {
			t.Errorf("case %d: Count: %d, %d", i, n, e)
		}
		if list, e := finite.Values(c.l); len(list) != c.want || e != c.e {
			t.Errorf("case %d: Values: %d, %d", i, len(list), e)
		}
		if c.e == api.OK {
			continue
		}
		if at, e := finite.Index(c.l, number(0)); at != 0 || e != c.e {
			t.Errorf("case %d: Index: %d, %d", i, at, e)
		}
		if table, e := finite.Table(c.l); len(table) != 0 || e != c.e {
			t.Errorf("case %d: Table: %d, %d", i, len(table), e)
		}
	}
	for i, l := range sample.Invalid() {
		n, e := finite.Count(l)
		list, e2 := finite.Values(l)
		at, e3 := finite.Index(l, number(0))
		table, e4 := finite.Table(l)
		if e != api.ErrArgument || e2 != e || e3 != e || e4 != e || n != 0 || len(list) != 0 || at != 0 || len(table) != 0 {
			t.Errorf("case %d, which is not valid: %d, %d, %d, %d", i, e, e2, e3, e4)
		}
	}
}

// finiteTables returns the elements and the order of finite descriptions, computed from the definitions, with the elements in the order of values.
func finiteTables() []*sample.Table {
	list := append(sample.Finite(), sample.Nested()...)
	list = append(list, mapOf(flag, many(5)...), product(flag, flag, words(api.Flat, "a"), flag, flag), words(api.Flat, "a", "b", "c"), lex(lex(flag, bounds(api.Min, 0, 1)), words(api.Flat, "a")), mapOf(lex(flag, flag), "a", "b"), product(words(api.Set, "a"), words(api.Flat, "b"), bounds(api.Min, -1, 0)), mapOf(closed([]string{"a", "b"}, api.Rule{If: []string{"b"}, Then: "a"}), "a", "b"))
	var tables []*sample.Table
	for _, l := range list {
		if lattice.Finite(l) {
			all := sample.Elements(l)
			slices.SortFunc(all, value.Compare)
			tables = append(tables, sample.TableOf(l, all))
		}
	}
	return tables
}

// TestValues covers P14.1 for all elements of many descriptions.
func TestValues(t *testing.T) {
	tables := finiteTables()
	for _, table := range tables {
		n, e := finite.Count(table.Lattice)
		list, e2 := finite.Values(table.Lattice)
		if e != api.OK || e2 != api.OK || n != len(table.All) || !slices.EqualFunc(list, table.All, sample.Same) {
			t.Errorf("%v: Count %d, %d; Values %v, %d", table.Lattice, n, e, list, e2)
		}
		for i, v := range table.All {
			if at, e := finite.Index(table.Lattice, v); e != api.OK || at != i {
				t.Errorf("Index(%v, %v): %d, %d", table.Lattice, v, at, e)
			}
		}
		for _, other := range tables {
			for _, v := range other.All {
				if at, e := finite.Index(table.Lattice, v); (e != api.OK) == value.Valid(table.Lattice, v) || e != api.OK && (e != api.ErrNone || at != 0) {
					t.Errorf("Index(%v, %v): %d, %d", table.Lattice, v, at, e)
				}
			}
		}
	}
}

// TestStrangers covers the error of Index: values that are no elements, some of them nearly.
func TestStrangers(t *testing.T) {
	ab := []string{"a", "b"}
	for i, c := range []struct {
		l api.Lattice
		v api.Value
	}{
		{flag, number(2)}, {flag, number(-1)}, {flag, named("a")}, {bounds(api.Max, 1, 3), number(0)}, {bounds(api.Max, 1, 3), number(4)}, {words(api.Set, ab...), named("b", "a")}, {words(api.Set, ab...), named("a", "a")}, {words(api.Set, ab...), named("c")}, {words(api.Set, ab...), number(1)},
		{words(api.Flat, ab...), number(1)}, {words(api.Flat, ab...), atom("c")}, {words(api.Flat, ab...), api.Value{N: 2, Names: []string{"a"}}}, {words(api.Flat, ab...), number(3)}, {mapOf(flag, ab...), keyed([]string{"a"}, number(0))}, {mapOf(flag, ab...), keyed([]string{"c"}, number(1))}, {mapOf(flag, ab...), keyed([]string{"a"})}, {mapOf(flag, ab...), parts(number(1))},
		{product(flag, flag), parts(number(1))}, {product(flag, flag), parts(number(1), number(1), number(1))}, {product(flag, flag), number(0)}, {lex(flag, flag), parts(number(1), number(2))}, {closed(ab, api.Rule{If: []string{"a"}, Then: "b"}), named("a")}, {flag, written(sample.Entry("a", 1, 1))},
	} {
		if at, e := finite.Index(c.l, c.v); at != 0 || e != api.ErrNone {
			t.Errorf("case %d: %d, %d", i, at, e)
		}
	}
}

// TestTable covers P14.2: the joins of all pairs of elements are their least upper bounds.
func TestTable(t *testing.T) {
	for _, table := range finiteTables() {
		want := make([][]int, len(table.All))
		for i := range want {
			for k := range want {
				want[i] = append(want[i], table.Upper(i, k))
			}
		}
		if got, e := finite.Table(table.Lattice); e != api.OK || !sameTables(got, want) {
			t.Errorf("Table(%v): %v, %d", table.Lattice, got, e)
		}
	}
}

// TestDescriptions covers P14.6 for the tables of descriptions.
func TestDescriptions(t *testing.T) {
	for _, from := range finiteTables() {
		l := from.Lattice
		table, _ := finite.Table(l)
		if v, e := finite.Check(table); v != (finite.Violation{}) || e != api.OK {
			t.Errorf("Check of %v: %v, %d", l, v, e)
			continue
		}
		least, _ := value.Bottom(l)
		bottom, _ := finite.Index(l, least)
		for i := range table {
			if table[bottom][i] != i {
				t.Errorf("%v: %d is not the bottom", l, bottom)
			}
		}
		list, _ := finite.Irreducibles(table)
		var want []int
		for i, v := range from.All {
			if is, _ := irreducible.Irreducible(l, v); is {
				want = append(want, i)
			}
		}
		if !slices.Equal(list, want) {
			t.Errorf("Irreducibles of %v: %v, not %v", l, list, want)
		}
		if is, _ := finite.Distributive(table); lattice.Distributive(l) && !is {
			t.Errorf("%v is not distributive", l)
		}
		checkLaws(t, table)
	}
}

// checkLaws covers P14.6 for the table of a lattice.
func checkLaws(t *testing.T, table [][]int) {
	t.Helper()
	list, _ := finite.Irreducibles(table)
	pairs, _ := finite.Covers(table)
	below := make([]int, len(table)) // how many elements are covered
	for _, p := range pairs {
		below[p[1]]++
	}
	least := slices.Index(below, 0)
	for i := range table {
		joined := least
		for _, k := range list {
			if table[k][i] == i {
				joined = table[joined][k]
			}
		}
		if joined != i || (below[i] == 1) != slices.Contains(list, i) {
			t.Errorf("%v: the element %d covers %d elements and is not the join of those of %v below it, %d", table, i, below[i], list, joined)
		}
	}
	height, _ := finite.Height(table)
	if is, _ := finite.Distributive(table); is && height != len(list) {
		t.Errorf("%v: the height is %d, with %d join-irreducible elements", table, height, len(list))
	}
}

// TestSharesNothing covers the rules: arguments are not modified, results share no memory with them or with each other, and nil and empty slices are equivalent.
func TestSharesNothing(t *testing.T) {
	for _, from := range finiteTables() {
		list, _ := finite.Values(from.Lattice)
		again, _ := finite.Values(from.Lattice)
		kept := slices.Clone(from.All)
		for i, v := range kept {
			kept[i] = sample.Clone(v)
			finite.Index(from.Lattice, v)
		}
		if !slices.EqualFunc(kept, from.All, sample.Same) {
			t.Fatalf("%v: an argument was modified", from.Lattice)
		}
		// The names of the description are written over, too.
		if !sample.Overwrite(slices.Concat(list, again, namesOf(from.Lattice))) {
			t.Fatalf("%v: memory is shared", from.Lattice)
		}
	}
	l := api.Lattice{Kind: api.Map, Names: []string{"a", "b"}, Parts: []api.Lattice{words(api.Set, "c")}}
	finite.Table(l)
	finite.Count(l)
	if !lattice.Equal(l, mapOf(words(api.Set, "c"), "a", "b")) {
		t.Errorf("a description was modified: %v", l)
	}
	empty := api.Lattice{Kind: api.Flag, Names: []string{}, Parts: []api.Lattice{}, Rules: []api.Rule{}}
	n, e := finite.Count(empty)
	at, e2 := finite.Index(empty, api.Value{N: 1, Names: []string{}, Parts: []api.Value{}, Entries: []api.Entry{}})
	if n != 2 || at != 1 || e != api.OK || e2 != api.OK {
		t.Errorf("empty slices and nil are not the same: %d, %d", n, at)
	}
}

// namesOf returns the lists of names in a description, as values.
func namesOf(l api.Lattice) []api.Value {
	list := []api.Value{{Names: l.Names}}
	for _, part := range l.Parts {
		list = append(list, namesOf(part)...)
	}
	return list
}

// TestLarge covers P1: the greatest tables, and descriptions that are too large to be enumerated.
func TestLarge(t *testing.T) {
	for i, c := range []struct {
		l             api.Lattice
		height, count int // of the join-irreducible elements
		covers        int
	}{
		{words(api.Set, many(8)...), 8, 8, 1024}, {bounds(api.Min, 0, 255), 255, 255, 255}, {product(bounds(api.Max, 1, 16), bounds(api.Min, 1, 16)), 30, 30, 480}, {lex(flag, words(api.Set, many(7)...)), 15, 15, 897}, {closed(many(8)), 8, 8, 1024},
	} {
		table, e := finite.Table(c.l)
		height, e2 := finite.Height(table)
		list, e3 := finite.Irreducibles(table)
		pairs, e4 := finite.Covers(table)
		is, e5 := finite.Distributive(table)
		meets, e6 := finite.Meets(table)
		if e != api.OK || e2 != e || e3 != e || e4 != e || e5 != e || e6 != e || len(table) != 256 || len(meets) != 256 {
			t.Errorf("case %d: %d, %d, %d, %d, %d, %d", i, e, e2, e3, e4, e5, e6)
		}
		if height != c.height || len(list) != c.count || len(pairs) != c.covers || !is {
			t.Errorf("case %d: Height %d, Irreducibles %d, Covers %d, Distributive %t", i, height, len(list), len(pairs), is)
		}
	}
	deep := number(1)
	for range 60000 {
		deep = keyed([]string{"a"}, deep)
	}
	if _, e := finite.Index(mapOf(mapOf(flag, "a"), "a"), deep); e != api.ErrNone {
		t.Errorf("a deep value: %d", e)
	}
}
