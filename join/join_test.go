package join_test

import (
	"reflect"
	"slices"
	"strconv"
	"testing"

	"plexus/api"
	"plexus/join"
	"plexus/sample"
	"plexus/value"
)

// Descriptions that the tests are built from.
var (
	flag     = api.Lattice{Kind: api.Flag}
	set      = api.Lattice{Kind: api.Set}
	flat     = api.Lattice{Kind: api.Flat}
	register = api.Lattice{Kind: api.Register}
	nine     = sample.Bounds(api.Max, 0, 9)
	down     = sample.Bounds(api.Min, 0, 9)
	single   = sample.Bounds(api.Max, 1, 1) // a trivial lattice
	ranked   = sample.Lex(nine, set)
	horn     = sample.Closed([]string{"a", "b", "c"}, api.Rule{If: []string{"a", "b"}, Then: "c"})
)

// Short names for what the tests are built with.
var (
	mapOf, lex, product                               = sample.MapOf, sample.Lex, sample.Product
	number, named, parts, atom, keyed, entry, written = sample.Number, sample.Named, sample.Parts, sample.Atom, sample.Keyed, sample.Entry, sample.Written
)

// TestExamples covers P11.1 to P11.3 for ordinary elements of each kind, the chapter's examples among them.
func TestExamples(t *testing.T) {
	dict, ab := mapOf(nine), []string{"a", "b"}
	atOne, atTwo := entry("x", 1, 1), entry("y", 2, 1)
	for i, c := range []struct {
		l                 api.Lattice
		a, b              api.Value
		join, meet        string // a meet of registers is not defined
		below, comparable bool   // a <= b
	}{
		// The examples.
		{nine, number(3), number(5), "5", "3", true, true}, {down, number(3), number(5), "3", "5", false, true}, {down, number(5), number(3), "3", "5", true, true},
		{dict, keyed([]string{"a"}, number(3)), keyed(ab, number(1), number(2)), "{a: 3, b: 2}", "{a: 1}", false, false}, {dict, keyed([]string{"a"}, number(3)), keyed([]string{"b"}, number(2)), "{a: 3, b: 2}", "{}", false, false},
		{ranked, parts(number(3), named("a")), parts(number(3), named("b")), "<3, {a,b}>", "<3, {}>", false, false}, {ranked, parts(number(3), named("a")), parts(number(4), named()), "<4, {}>", "<3, {a}>", true, true},
		{flat, atom("a"), atom("b"), "!", "?", false, false},
		{register, written(atOne), written(entry("y", 1, 1, 2, 1)), "[y@1:1.2:1]", "", true, true}, {register, written(atOne), written(atTwo), "[x@1:1 | y@2:1]", "", false, false},
		{horn, named("a"), named("b"), "{a,b,c}", "{}", false, false},
		// Further elements.
		{flag, number(0), number(1), "true", "false", true, true}, {flag, number(1), number(1), "true", "true", true, true}, {nine, number(5), number(3), "5", "3", false, true},
		{set, named("a", "c"), named("b", "c"), "{a,b,c}", "{c}", false, false}, {set, named(), named("b"), "{b}", "{}", true, true}, {set, named("a", "b"), named("b"), "{a,b}", "{b}", false, true}, {set, named("a", "ab"), named("a-", "b"), "{a,a-,ab,b}", "{}", false, false},
		{dict, keyed([]string{"a"}, number(3)), keyed(ab, number(4), number(2)), "{a: 4, b: 2}", "{a: 3}", true, true}, {dict, keyed(nil), keyed([]string{"a"}, number(1)), "{a: 1}", "{}", true, true}, {dict, keyed([]string{"b"}, number(9)), keyed([]string{"a", "c"}, number(1), number(2)), "{a: 1, b: 9, c: 2}", "{}", false, false},
		{mapOf(set), keyed(ab, named("x"), named("y")), keyed(ab, named("y"), named("x", "y")), "{a: {x,y}, b: {x,y}}", "{b: {y}}", false, false}, {mapOf(down), keyed([]string{"a"}, number(3)), keyed([]string{"a"}, number(5)), "{a: 3}", "{a: 5}", false, true},
		{product(nine, set), parts(number(3), named("a")), parts(number(2), named("b")), "(z: 3, y: {a,b})", "(z: 2, y: {})", false, false}, {product(nine, down), parts(number(3), number(3)), parts(number(4), number(4)), "(z: 4, y: 3)", "(z: 3, y: 4)", false, false}, {product(nine, down), parts(number(3), number(3)), parts(number(4), number(2)), "(z: 4, y: 2)", "(z: 3, y: 3)", true, true},
		{ranked, parts(number(4), named("a")), parts(number(3), named("a", "b")), "<4, {a}>", "<3, {a,b}>", false, true}, {ranked, parts(number(4), named("a")), parts(number(4), named("a", "b")), "<4, {a,b}>", "<4, {a}>", true, true}, {lex(down, set), parts(number(4), named("a")), parts(number(3), named()), "<3, {}>", "<4, {a}>", true, true}, {lex(lex(flag, down), set), parts(parts(number(1), number(5)), named("a")), parts(parts(number(0), number(1)), named("b")), "<<true, 5>, {a}>", "<<false, 1>, {b}>", false, true},
		{flat, number(0), atom("a"), "a", "?", true, true}, {flat, atom("a"), number(2), "!", "a", true, true}, {flat, atom("a"), atom("a"), "a", "a", true, true}, {flat, number(2), number(0), "!", "?", false, true}, {sample.Words(api.Flat, "a"), atom("a"), number(2), "!", "a", true, true},
		{register, written(entry("a", 1, 1)), written(entry("b", 1, 1)), "[a@1:1 | b@1:1]", "", false, false}, {register, written(entry("b", 1, 2)), written(entry("a", 1, 3), entry("b", 2, 1)), "[a@1:3 | b@2:1]", "", true, true}, {register, written(atTwo, entry("z", 1, 5)), written(atTwo), "[y@2:1 | z@1:5]", "", false, true}, {register, written(entry("c", 1, 1, 2, 2), entry("d", 3, 1)), written(entry("b", 2, 1, 3, 1), entry("c", 1, 2)), "[b@2:1.3:1 | c@1:1.2:2 | c@1:2]", "", false, false}, {register, written(), written(atOne), "[x@1:1]", "", true, true},
		{horn, named("a"), named("c"), "{a,c}", "{}", false, false}, {horn, named("a", "c"), named("b", "c"), "{a,b,c}", "{c}", false, false}, {horn, named("b"), named("b", "c"), "{b,c}", "{b}", true, true},
	} {
		got, e1 := join.Join(c.l, c.a, c.b)
		back, e2 := join.Join(c.l, c.b, c.a)
		if s, _ := value.Text(c.l, got); e1 != api.OK || e2 != api.OK || s != c.join || !value.Equal(got, back) {
			t.Errorf("case %d: Join: %s, %d; %v, %d", i, s, e1, back, e2)
		}
		if join.Leq(c.l, c.a, c.b) != c.below || join.Comparable(c.l, c.a, c.b) != c.comparable || join.Comparable(c.l, c.b, c.a) != c.comparable {
			t.Errorf("case %d: Leq: %t, Comparable: %t", i, join.Leq(c.l, c.a, c.b), join.Comparable(c.l, c.a, c.b))
		}
		if c.l.Kind == api.Register {
			continue
		}
		got, e1 = join.Meet(c.l, c.a, c.b)
		back, e2 = join.Meet(c.l, c.b, c.a)
		if s, _ := value.Text(c.l, got); e1 != api.OK || e2 != api.OK || s != c.meet || !value.Equal(got, back) {
			t.Errorf("case %d: Meet: %s, %d; %v, %d", i, s, e1, back, e2)
		}
	}
}

// TestListExamples covers P11.2, P11.4 and P11.5 for ordinary lists.
func TestListExamples(t *testing.T) {
	a, b, ab := named("a"), named("b"), named("a", "b")
	for i, c := range []struct {
		l       api.Lattice
		list    []api.Value
		joined  string
		chain   []int
		isChain bool
		maximal []int
	}{
		// The example 7.
		{nine, []api.Value{number(5), number(3), number(5)}, "5", []int{1, 0, 2}, true, []int{0}},
		{nine, nil, "0", nil, true, nil}, {down, nil, "9", nil, true, nil}, {lex(down, set), nil, "<9, {}>", nil, true, nil}, {register, nil, "[]", nil, true, nil}, {mapOf(single), nil, "{}", nil, true, nil},
		{nine, []api.Value{number(4)}, "4", []int{0}, true, []int{0}}, {nine, []api.Value{number(0)}, "0", []int{0}, true, []int{0}}, {down, []api.Value{number(3), number(5), number(4), number(3)}, "3", []int{1, 2, 0, 3}, true, []int{0}},
		{set, []api.Value{a, b}, "{a,b}", nil, false, []int{0, 1}}, {set, []api.Value{a, b, ab}, "{a,b}", nil, false, []int{2}}, {set, []api.Value{ab, a, named(), a, ab}, "{a,b}", []int{2, 1, 3, 0, 4}, true, []int{0}}, {set, []api.Value{b, a, b, a, named("c")}, "{a,b,c}", nil, false, []int{0, 1, 4}}, {set, []api.Value{a, named("b", "c"), ab, named("b")}, "{a,b,c}", nil, false, []int{1, 2}}, {set, []api.Value{named(), named()}, "{}", []int{0, 1}, true, []int{0}},
		{ranked, []api.Value{parts(number(2), a), parts(number(1), ab), parts(number(2), named())}, "<2, {a}>", []int{1, 2, 0}, true, []int{0}},
		{flat, []api.Value{atom("a"), number(0), atom("b"), number(0)}, "!", nil, false, []int{0, 2}}, {flat, []api.Value{number(2), atom("a"), number(0)}, "!", []int{2, 1, 0}, true, []int{0}},
		{register, []api.Value{written(entry("b", 2, 1)), written(entry("a", 1, 1)), written(entry("a", 1, 2), entry("b", 2, 1)), written(entry("c", 0, 1))}, "[a@1:2 | b@2:1 | c@0:1]", nil, false, []int{2, 3}},
		{horn, []api.Value{a, named(), b}, "{a,b,c}", nil, false, []int{0, 2}},
	} {
		v, e := join.JoinAll(c.l, c.list)
		if s, _ := value.Text(c.l, v); e != api.OK || s != c.joined {
			t.Errorf("case %d: JoinAll: %s, %d", i, s, e)
		}
		if list, ok := join.Chain(c.l, c.list); ok != c.isChain || !slices.Equal(list, c.chain) {
			t.Errorf("case %d: Chain: %v, %t", i, list, ok)
		}
		if list, e := join.Maximal(c.l, c.list); e != api.OK || !slices.Equal(list, c.maximal) {
			t.Errorf("case %d: Maximal: %v, %d", i, list, e)
		}
	}
}

// strangers are values that are elements of none of the descriptions in TestErrors.
var strangers = []api.Value{number(-1), number(11), named("A"), named("b", "a"), named("a", "a"), parts(number(1)), parts(number(1), number(1), number(1)), keyed([]string{"k"}, number(0)), written(api.Entry{}), written(entry("b", 1, 1), entry("a", 1, 1)), written(entry("a", 1, 1), entry("b", 1, 2)), {N: 1, Names: []string{"a", "b"}}, parts(named(), number(0))}

// TestErrors covers the errors, and false in place of them: each argument is checked, the description first, and no other result is given.
func TestErrors(t *testing.T) {
	check := func(l api.Lattice, a, b api.Value, want, ofMeet api.Errno) {
		t.Helper()
		v, e := join.Join(l, a, b)
		all, e2 := join.JoinAll(l, []api.Value{a, b})
		m, e3 := join.Meet(l, a, b)
		list, e4 := join.Maximal(l, []api.Value{a, b})
		if e != want || e2 != want || e3 != ofMeet || e4 != want || len(list) != 0 {
			t.Errorf("%v with %v, %v: %d, %d, %d, %d with %v", l, a, b, e, e2, e3, e4, list)
		}
		for _, x := range []api.Value{v, all, m} {
			if !reflect.DeepEqual(x, api.Value{}) {
				t.Errorf("%v with %v, %v: the value %v with an error", l, a, b, x)
			}
		}
		if indices, ok := join.Chain(l, []api.Value{a, b}); ok || len(indices) != 0 || join.Leq(l, a, b) || join.Comparable(l, a, b) {
			t.Errorf("%v with %v, %v: Chain %v, %t", l, a, b, indices, ok)
		}
	}
	for _, l := range sample.Invalid() {
		for _, v := range append([]api.Value{{}, number(1), number(3), named("a"), parts(number(0)), parts(named(), number(0)), atom("a")}, strangers...) {
			check(l, v, v, api.ErrArgument, api.ErrArgument)
		}
		v, e1 := join.JoinAll(l, nil)
		list, e2 := join.Maximal(l, nil)
		if _, ok := join.Chain(l, nil); ok || e1 != api.ErrArgument || e2 != api.ErrArgument || len(list) != 0 || !reflect.DeepEqual(v, api.Value{}) {
			t.Errorf("%v with no values: %t, %d, %d", l, ok, e1, e2)
		}
	}
	for _, l := range []api.Lattice{flag, nine, set, flat, register, sample.Closed([]string{"b"}), mapOf(nine), mapOf(register), product(nine), product(flag, register), ranked, lex(flag, register), lex(flag, mapOf(register)), product(flag, lex(flag, product(register)))} {
		ofMeet := api.ErrType
		if hasRegister(l) {
			ofMeet = api.ErrNone
		}
		least, _ := value.Bottom(l)
		for _, v := range strangers {
			if value.Valid(l, v) {
				continue
			}
			check(l, v, v, api.ErrType, ofMeet)
			check(l, least, v, api.ErrType, ofMeet)
			check(l, v, least, api.ErrType, ofMeet)
		}
		if _, e := join.Meet(l, least, least); (e == api.ErrNone) != hasRegister(l) || e != api.OK && e != api.ErrNone {
			t.Errorf("Meet of %v: %d", l, e)
		}
	}
}

// hasRegister reports whether a description has a node of the kind Register.
func hasRegister(l api.Lattice) bool {
	return l.Kind == api.Register || slices.ContainsFunc(l.Parts, hasRegister)
}

// TestSharesNothing covers the rules: arguments are not modified, results share no memory with them or with each other, and nil and empty slices are equivalent.
func TestSharesNothing(t *testing.T) {
	for _, table := range sample.NewTables(append(sample.Finite(), sample.Nested()...)) {
		l, n := table.Lattice, len(table.All)
		for i := range n {
			k := (i*7 + 3) % n
			a, b := sample.Clone(table.All[i]), sample.Clone(table.All[k])
			keptA, keptB := sample.Clone(a), sample.Clone(b)
			v, _ := join.Join(l, a, b)
			m, _ := join.Meet(l, a, b)
			all, _ := join.JoinAll(l, []api.Value{a, b})
			one, _ := join.JoinAll(l, []api.Value{a})
			none, _ := join.JoinAll(l, nil)
			join.Leq(l, a, b)
			join.Chain(l, []api.Value{a, b})
			join.Maximal(l, []api.Value{a, b})
			want := sample.Clone(v)
			if !sample.Same(a, keptA) || !sample.Same(b, keptB) {
				t.Fatalf("an argument was modified: %v, %v", keptA, keptB)
			}
			if !sample.Overwrite([]api.Value{v, m, all, one, none, a, b}) {
				t.Fatalf("%v: memory of %v and %v is shared", l, keptA, keptB)
			}
			if again, _ := join.Join(l, keptA, keptB); !sample.Same(again, want) {
				t.Fatalf("a result was modified: %v", again)
			}
		}
	}
	list := []api.Value{named("a", "b"), named("a")}
	join.Chain(set, list)
	join.Maximal(set, list)
	join.JoinAll(set, list)
	if len(list[0].Names) != 2 || len(list[1].Names) != 1 {
		t.Errorf("a list was modified: %v", list)
	}
	empty := api.Value{Names: []string{}, Parts: []api.Value{}, Entries: []api.Entry{}}
	for _, l := range []api.Lattice{flag, set, flat, register, horn, mapOf(nine)} {
		l.Names, l.Parts, l.Rules = append([]string{}, l.Names...), append([]api.Lattice{}, l.Parts...), append([]api.Rule{}, l.Rules...)
		if v, e := join.Join(l, empty, api.Value{}); e != api.OK || !value.Equal(v, empty) || !join.Leq(l, empty, api.Value{}) || !join.Leq(l, api.Value{}, empty) {
			t.Errorf("empty slices and nil are not the same: %v, %d", v, e)
		}
	}
}

// TestLarge covers P1: what is nested deeply or long ends.
func TestLarge(t *testing.T) {
	deep := number(1)
	for range 60000 {
		deep = keyed([]string{"k"}, deep)
	}
	if _, e := join.Join(mapOf(mapOf(flag)), deep, deep); e != api.ErrType || join.Leq(mapOf(flag), deep, deep) {
		t.Errorf("a deep value: %d", e)
	}
	const count = 20000
	var singles, growing, keys []api.Value
	for i := range count {
		singles = append(singles, named("x"+strconv.Itoa(count+i)))
		growing = append(growing, number(int64(i*7%count)))
		keys = append(keys, keyed([]string{"x" + strconv.Itoa(count+i)}, number(1)))
	}
	if v, e := join.JoinAll(set, singles); e != api.OK || len(v.Names) != count || !value.Valid(set, v) {
		t.Errorf("the join of many sets: %d names, %d", len(v.Names), e)
	}
	if v, e := join.JoinAll(mapOf(nine), keys); e != api.OK || len(v.Names) != count || !value.Valid(mapOf(nine), v) {
		t.Errorf("the join of many maps: %d keys, %d", len(v.Names), e)
	}
	wide := sample.Bounds(api.Max, 0, count)
	if list, ok := join.Chain(wide, growing); !ok || len(list) != count || growing[list[1]].N != 1 || growing[list[count-1]].N != count-1 {
		t.Errorf("a long chain: %t, %d", ok, len(list))
	}
	if list, e := join.Maximal(wide, growing); e != api.OK || len(list) != 1 || growing[list[0]].N != count-1 {
		t.Errorf("the maximal elements of a long chain: %v, %d", list, e)
	}
	var tied []api.Value
	for i := range 200 {
		tied = append(tied, number(int64(i%3)))
	}
	list, ok := join.Chain(nine, tied)
	isAscending := slices.IsSortedFunc(list, func(i, k int) int { return (i%3-k%3)*200 + i - k })
	if first, e := join.Maximal(nine, tied); !ok || len(list) != 200 || !isAscending || e != api.OK || !slices.Equal(first, []int{2}) {
		t.Errorf("a long chain of few elements: %v, %t, %v, %d", list, ok, first, e)
	}
	if _, ok := join.Chain(set, singles); ok {
		t.Error("disjoint sets are no chain")
	}
	var first, second []api.Entry
	for i := range int64(500) {
		first = append(first, entry("a", 1, i+1, 2, 500-i))
		second = append(second, entry("a", 1, i+2, 2, 501-i))
	}
	if v, e := join.Join(register, written(first...), written(second...)); e != api.OK || !sample.Same(v, written(second...)) {
		t.Errorf("the join of large registers: %d entries, %d", len(v.Entries), e)
	}
}
