package closure

import (
	"math"
	"math/rand"
	"reflect"
	"slices"
	"strconv"
	"testing"

	"plexus/api"
)

// abc and steps are those of the chapter's examples.
var abc = []string{"a", "b", "c"}

var steps = []api.Rule{{If: []string{"a"}, Then: "b"}, {If: []string{"b"}, Then: "c"}}

// calls are calls of all functions with a universe and rules; each returns the error, and whether every other result is its zero value.
var calls = []struct {
	name string
	call func(universe []string, rules []api.Rule) (api.Errno, bool)
}{
	{"Check", func(u []string, r []api.Rule) (api.Errno, bool) { return Check(u, r), true }},
	{"Close", func(u []string, r []api.Rule) (api.Errno, bool) {
		set, e := Close(u, r, nil)
		return e, len(set) == 0
	}},
	{"Closed", func(u []string, r []api.Rule) (api.Errno, bool) {
		is, e := Closed(u, r, nil)
		return e, !is
	}},
	{"Entails", func(u []string, r []api.Rule) (api.Errno, bool) {
		is, e := Entails(u, r, api.Rule{Then: "zz"})
		return e, !is
	}},
	{"Entails, the last rule", func(u []string, r []api.Rule) (api.Errno, bool) {
		if len(r) == 0 {
			r = []api.Rule{{}}
		}
		is, e := Entails(u, r[:len(r)-1], r[len(r)-1])
		return e, !is
	}},
	{"Equivalent", func(u []string, r []api.Rule) (api.Errno, bool) {
		is, e := Equivalent(u, r, []api.Rule{{If: []string{"b", "a"}}})
		return e, !is
	}},
	{"Equivalent, the second list", func(u []string, r []api.Rule) (api.Errno, bool) {
		is, e := Equivalent(u, r[:len(r)/2], r[len(r)/2:])
		return e, !is
	}},
	{"Reduce", func(u []string, r []api.Rule) (api.Errno, bool) {
		list, e := Reduce(u, r)
		return e, len(list) == 0
	}},
	{"Why", func(u []string, r []api.Rule) (api.Errno, bool) {
		list, e := Why(u, r, []string{"b", "a"}, "?")
		return e, len(list) == 0
	}},
	{"All", func(u []string, r []api.Rule) (api.Errno, bool) {
		list, e := All(u, r, 0)
		return e, len(list) == 0
	}},
	{"Stem", func(u []string, r []api.Rule) (api.Errno, bool) {
		list, e := Stem(u, r, -1)
		return e, len(list) == 0
	}},
}

// The errors of the universe and of the rules, in the order of the table.
func TestUniverseAndRuleErrors(t *testing.T) {
	bad, unknown, descending := []string{"B"}, api.Rule{If: []string{"x"}, Then: "a"}, api.Rule{If: []string{"b", "a"}, Then: "a"}
	for _, c := range []struct {
		universe []string
		rules    []api.Rule
		want     api.Errno
	}{
		{[]string{"a", ""}, nil, api.ErrName}, {[]string{"9"}, nil, api.ErrName}, {bad, nil, api.ErrName}, {[]string{"abcdefghijklmnopq"}, nil, api.ErrName}, {[]string{"a\xff"}, nil, api.ErrName},
		{[]string{"b", "a"}, nil, api.ErrArgument}, {[]string{"a", "a"}, nil, api.ErrArgument}, {[]string{"a0", "a-"}, nil, api.ErrArgument},
		{[]string{"b", "a", "C"}, nil, api.ErrName}, {bad, []api.Rule{descending}, api.ErrName}, {[]string{"b", "a"}, []api.Rule{unknown}, api.ErrArgument},
		{abc, []api.Rule{unknown}, api.ErrName}, {abc, []api.Rule{{If: []string{"a"}, Then: "d"}}, api.ErrName}, {abc, []api.Rule{{}}, api.ErrName}, {abc, []api.Rule{{If: []string{""}, Then: "a"}}, api.ErrName}, {nil, []api.Rule{{Then: "a"}}, api.ErrName},
		{abc, []api.Rule{descending}, api.ErrArgument}, {abc, []api.Rule{{If: []string{"a", "a"}, Then: "b"}}, api.ErrArgument}, {abc, []api.Rule{{If: []string{"y", "x"}, Then: "z"}}, api.ErrArgument},
		{abc, []api.Rule{unknown, descending}, api.ErrName}, {abc, []api.Rule{descending, unknown}, api.ErrArgument}, {abc, []api.Rule{steps[0], unknown, descending}, api.ErrName},
	} {
		for _, f := range calls {
			if e, zero := f.call(c.universe, c.rules); e != c.want || !zero {
				t.Errorf("%s of %q and %q: %d instead of %d, zero %t", f.name, c.universe, c.rules, e, c.want, zero)
			}
		}
	}
	for _, u := range [][]string{nil, abc, {"a", "a-", "a0", "aa", "abcdefghijklmnop", "z"}} {
		if e := Check(u, nil); e != api.OK {
			t.Errorf("Check(%q): %d", u, e)
		}
	}
	if e := Check(abc, append(steps, api.Rule{Then: "a"}, api.Rule{If: abc, Then: "c"})); e != api.OK {
		t.Errorf("Check: %d", e)
	}
}

// The errors of a set and of a name, in the order of the table.
func TestSetErrors(t *testing.T) {
	for _, c := range []struct {
		set  []string
		want api.Errno
	}{
		{[]string{"b", "a"}, api.ErrArgument}, {[]string{"a", "a"}, api.ErrArgument}, {[]string{"y", "x"}, api.ErrArgument}, {[]string{"a", ""}, api.ErrArgument},
		{[]string{"d"}, api.ErrName}, {[]string{"a", "bb"}, api.ErrName}, {[]string{""}, api.ErrName}, {[]string{"A"}, api.ErrName},
	} {
		set, e1 := Close(abc, steps, c.set)
		is, e2 := Closed(abc, nil, c.set)
		why, e3 := Why(abc, steps, c.set, "x")
		if e1 != c.want || e2 != c.want || e3 != c.want || len(set) != 0 || is || len(why) != 0 {
			t.Errorf("%q: %d, %d, %d, with the results %q, %t, %v", c.set, e1, e2, e3, set, is, why)
		}
		if _, e := Close(abc, []api.Rule{{}}, c.set); e != api.ErrName {
			t.Errorf("an invalid rule, and %q: %d", c.set, e)
		}
	}
	for name, want := range map[string]api.Errno{"d": api.ErrName, "": api.ErrName, "B": api.ErrName, "a": api.ErrNone, "b": api.OK, "c": api.OK} {
		if why, e := Why(abc, steps, []string{"b"}, name); e != want || e != api.OK && len(why) != 0 {
			t.Errorf("Why of %q: %v, %d", name, why, e)
		}
	}
}

// The errors of a limit: the limit is checked last.
func TestLimitErrors(t *testing.T) {
	for _, c := range []struct {
		limit     int
		all, stem api.Errno
	}{
		{math.MinInt, api.ErrArgument, api.ErrArgument}, {-1, api.ErrArgument, api.ErrArgument}, {0, api.ErrArgument, api.ErrArgument},
		{1, api.ErrLimit, api.ErrLimit}, {3, api.ErrLimit, api.ErrLimit}, {4, api.OK, api.ErrLimit}, {5, api.OK, api.ErrLimit}, {6, api.OK, api.OK}, {math.MaxInt, api.OK, api.OK},
	} {
		all, e1 := All(abc, steps, c.limit)
		stem, e2 := Stem(abc, steps, c.limit)
		if e1 != c.all || e2 != c.stem || (len(all) == 4) != (e1 == api.OK) || (len(stem) == 2) != (e2 == api.OK) || e1 != api.OK && len(all) != 0 || e2 != api.OK && len(stem) != 0 {
			t.Errorf("with the limit %d: %d, %d, with the results %q, %q", c.limit, e1, e2, all, stem)
		}
	}
	manyRules(200, func(_ *rand.Rand, u []string, rules []api.Rule) {
		closed := closedMasks(u, rules)
		both := len(closed) + len(pseudoMasks(u, closed))
		for limit := 1; limit < both+2; limit++ {
			if _, e := All(u, rules, limit); (e == api.OK) != (limit >= len(closed)) || e != api.OK && e != api.ErrLimit {
				t.Fatalf("All of %q and %q with the limit %d: %d", u, rules, limit, e)
			}
			if _, e := Stem(u, rules, limit); (e == api.OK) != (limit >= both) || e != api.OK && e != api.ErrLimit {
				t.Fatalf("Stem of %q and %q with the limit %d: %d", u, rules, limit, e)
			}
		}
	})
}

// P8.1 to P8.7: the chapter's examples.
func TestExamples(t *testing.T) {
	third := api.Rule{If: []string{"a", "b"}, Then: "c"}
	if set, e := Close(abc, steps, []string{"a"}); e != api.OK || !slices.Equal(set, abc) {
		t.Errorf("Close: %q, %d", set, e)
	}
	if is, e := Closed(abc, steps, []string{"c"}); e != api.OK || !is {
		t.Errorf("Closed: %t, %d", is, e)
	}
	if is, e := Entails(abc, steps, api.Rule{If: []string{"a"}, Then: "c"}); e != api.OK || !is {
		t.Errorf("Entails: %t, %d", is, e)
	}
	if why, e := Why(abc, steps, []string{"a"}, "c"); e != api.OK || !slices.Equal(why, []int{0, 1}) {
		t.Errorf("Why: %v, %d", why, e)
	}
	if all, e := All(abc, steps, 10); e != api.OK || !reflect.DeepEqual(all, [][]string{{}, {"c"}, {"b", "c"}, abc}) {
		t.Errorf("All: %q, %d", all, e)
	}
	if stem, e := Stem(abc, steps, 10); e != api.OK || !reflect.DeepEqual(stem, [][2][]string{{{"b"}, {"b", "c"}}, {{"a"}, abc}}) {
		t.Errorf("Stem: %q, %d", stem, e)
	}
	if list, e := Reduce(abc, []api.Rule{steps[0], steps[1], third}); e != api.OK || !equalRules(list, steps) {
		t.Errorf("Reduce: %q, %d", list, e)
	}
}

// P8.1: Close and Closed, for all sets.
func TestClose(t *testing.T) {
	manyRules(600, func(_ *rand.Rand, u []string, rules []api.Rule) {
		if e := Check(u, rules); e != api.OK {
			t.Fatalf("Check(%q, %q): %d", u, rules, e)
		}
		closed := closedMasks(u, rules)
		for mask := range 1 << len(u) {
			set := setOf(u, mask)
			want := setOf(u, closureOf(closed, mask))
			if got, e := Close(u, rules, set); e != api.OK || !slices.Equal(got, want) {
				t.Fatalf("Close(%q, %q, %q): %q, %d instead of %q", u, rules, set, got, e, want)
			}
			if is, e := Closed(u, rules, set); e != api.OK || is != slices.Contains(closed, mask) {
				t.Fatalf("Closed(%q, %q, %q): %t, %d", u, rules, set, is, e)
			}
		}
	})
}

// P8.2: a Moore family.
func TestMooreFamily(t *testing.T) {
	manyRules(60, func(_ *rand.Rand, u []string, rules []api.Rule) {
		closure := func(mask int) int {
			set, _ := Close(u, rules, setOf(u, mask))
			return maskOf(u, set)
		}
		for a := range 1 << len(u) {
			for b := range 1 << len(u) {
				x, y := closure(a), closure(b)
				if a&^x != 0 || closure(x) != x || a&^b == 0 && x&^y != 0 || closure(x&y) != x&y {
					t.Fatalf("%q and %q: the closures of %b and %b are %b and %b", u, rules, a, b, x, y)
				}
			}
		}
	})
}

// P8.3: Entails, for all rules of a universe.
func TestEntails(t *testing.T) {
	manyRules(300, func(_ *rand.Rand, u []string, rules []api.Rule) {
		closed := closedMasks(u, rules)
		for mask := range 1 << len(u) {
			for _, name := range u {
				r := api.Rule{If: setOf(u, mask), Then: name}
				is, e := Entails(u, rules, r)
				set, _ := Close(u, rules, r.If)
				if e != api.OK || is != isEntailed(u, closed, r) || is != slices.Contains(set, name) {
					t.Fatalf("Entails(%q, %q, %q): %t, %d", u, rules, r, is, e)
				}
			}
		}
	})
}

// P8.3: Equivalent, for lists that are often equivalent.
func TestEquivalent(t *testing.T) {
	count := [2]int{}
	manyRules(1500, func(source *rand.Rand, u []string, a []api.Rule) {
		b := randomRules(source, u)
		if source.Intn(2) == 0 {
			b = slices.Concat(reduceSlowly(u, a), b[:min(len(b), source.Intn(2))])
			source.Shuffle(len(b), func(i, k int) { b[i], b[k] = b[k], b[i] })
		}
		want := slices.Equal(closedMasks(u, a), closedMasks(u, b))
		if want {
			count[1]++
		} else {
			count[0]++
		}
		for _, pair := range [][2][]api.Rule{{a, b}, {b, a}} {
			if is, e := Equivalent(u, pair[0], pair[1]); e != api.OK || is != want {
				t.Fatalf("Equivalent(%q, %q, %q): %t, %d", u, pair[0], pair[1], is, e)
			}
		}
		if is, e := Equivalent(u, a, a); e != api.OK || !is {
			t.Fatalf("Equivalent(%q, %q) with itself: %t, %d", u, a, is, e)
		}
	})
	if count[0] < 300 || count[1] < 300 {
		t.Errorf("the lists are not varied: %v", count)
	}
	// Equal premises with different conclusions, and premises that look alike when they are joined.
	u := []string{"a", "aa", "b"}
	if is, _ := Equivalent(u, []api.Rule{{If: []string{"a"}, Then: "b"}}, []api.Rule{{If: []string{"a"}, Then: "aa"}}); is {
		t.Error("a => b and a => aa are equivalent")
	}
	if is, _ := Equivalent([]string{"a", "aab", "ab"}, []api.Rule{{If: []string{"a", "ab"}, Then: "aab"}}, []api.Rule{{If: []string{"aab"}, Then: "aab"}}); is {
		t.Error("a, ab => aab and aab => aab are equivalent")
	}
}

// P8.4.
func TestReduce(t *testing.T) {
	manyRules(800, func(_ *rand.Rand, u []string, rules []api.Rule) {
		list, e := Reduce(u, rules)
		if e != api.OK || !equalRules(list, reduceSlowly(u, rules)) {
			t.Fatalf("Reduce(%q, %q): %q, %d", u, rules, list, e)
		}
		closed := closedMasks(u, rules)
		if !slices.Equal(closedMasks(u, list), closed) {
			t.Fatalf("Reduce(%q, %q) is not equivalent: %q", u, rules, list)
		}
		for i, r := range list {
			if isEntailed(u, closedMasks(u, slices.Concat(list[:i], list[i+1:])), r) {
				t.Fatalf("Reduce(%q, %q): %q has a rule too many", u, rules, list)
			}
			for k := range r.If {
				if isEntailed(u, closed, api.Rule{If: slices.Concat(r.If[:k], r.If[k+1:]), Then: r.Then}) {
					t.Fatalf("Reduce(%q, %q): %q has a premise too many", u, rules, list)
				}
			}
		}
	})
	// Of two equal rules the first one is removed: it is entailed by the second one.
	twice := []api.Rule{{If: []string{"a"}, Then: "b"}, {If: []string{"c"}, Then: "b"}, {If: []string{"a"}, Then: "b"}}
	if list, e := Reduce(abc, twice); e != api.OK || !equalRules(list, twice[1:]) {
		t.Errorf("Reduce of equal rules: %q, %d", list, e)
	}
	if list, e := Reduce(nil, nil); e != api.OK || len(list) != 0 {
		t.Errorf("Reduce of nothing: %q, %d", list, e)
	}
}

// P8.5.
func TestWhy(t *testing.T) {
	manyRules(600, func(_ *rand.Rand, u []string, rules []api.Rule) {
		for mask := range 1 << len(u) {
			set := setOf(u, mask)
			applied, reached := chain(u, rules, mask)
			for i, name := range u {
				why, e := Why(u, rules, set, name)
				if reached>>(len(u)-1-i)&1 == 0 {
					if e != api.ErrNone || len(why) != 0 {
						t.Fatalf("Why(%q, %q, %q, %q): %v, %d", u, rules, set, name, why, e)
					}
					continue
				}
				if e != api.OK || !slices.Equal(why, derivation(rules, applied, set, name)) {
					t.Fatalf("Why(%q, %q, %q, %q): %v, %d", u, rules, set, name, why, e)
				}
				checkDerivation(t, u, rules, mask, name, why)
			}
		}
	})
	// The premise that the later rule derives is derived first if its rule can be applied first.
	rules := []api.Rule{{If: []string{"b"}, Then: "c"}, {If: []string{"a"}, Then: "c"}, {If: []string{"a"}, Then: "b"}}
	if why, e := Why(abc, rules, []string{"a"}, "c"); e != api.OK || !slices.Equal(why, []int{1}) {
		t.Errorf("Why: %v, %d", why, e)
	}
	rules = []api.Rule{{If: []string{"a", "b"}, Then: "d"}, {If: []string{"c"}, Then: "b"}, {Then: "a"}}
	if why, e := Why([]string{"a", "b", "c", "d"}, rules, []string{"c"}, "d"); e != api.OK || !slices.Equal(why, []int{1, 2, 0}) {
		t.Errorf("Why: %v, %d", why, e)
	}
}

// checkDerivation requires that each rule can be applied after the ones before it, that the last one concludes the name, and that none can be left out.
func checkDerivation(t *testing.T, u []string, rules []api.Rule, mask int, name string, why []int) {
	t.Helper()
	goal := maskOf(u, []string{name})
	if mask&goal != 0 {
		if len(why) != 0 {
			t.Fatalf("a derivation of a name of the set: %v", why)
		}
		return
	}
	run := func(skip int) (int, bool) {
		has, all := mask, true
		for i, r := range why {
			if i == skip || maskOf(u, rules[r].If)&^has != 0 {
				all = false
				continue
			}
			has |= maskOf(u, []string{rules[r].Then})
		}
		return has, all
	}
	if has, all := run(-1); !all || has&goal == 0 || rules[why[len(why)-1]].Then != name {
		t.Fatalf("%v is no derivation of %q", why, name)
	}
	for skip := range why {
		if has, _ := run(skip); has&goal != 0 {
			t.Fatalf("the derivation %v of %q is too long", why, name)
		}
	}
}

// P8.6.
func TestAll(t *testing.T) {
	manyRules(600, func(_ *rand.Rand, u []string, rules []api.Rule) {
		all, e := All(u, rules, 1<<len(u))
		var masks []int
		for _, set := range all {
			masks = append(masks, maskOf(u, set))
			if !slices.Equal(set, setOf(u, maskOf(u, set))) {
				t.Fatalf("All(%q, %q): %q is no set", u, rules, set)
			}
		}
		if e != api.OK || !slices.Equal(masks, closedMasks(u, rules)) {
			t.Fatalf("All(%q, %q): %q, %d", u, rules, all, e)
		}
		first, _ := Close(u, rules, nil)
		if !slices.Equal(all[0], first) || !slices.Equal(all[len(all)-1], u) {
			t.Fatalf("All(%q, %q): the first or the last one of %q", u, rules, all)
		}
	})
	if all, e := All(nil, nil, 1); e != api.OK || len(all) != 1 || len(all[0]) != 0 {
		t.Errorf("All of the empty universe: %q, %d", all, e)
	}
}

// P8.7: the basis.
func TestStem(t *testing.T) {
	manyRules(800, func(_ *rand.Rand, u []string, rules []api.Rule) {
		stem, e := Stem(u, rules, math.MaxInt)
		closed := closedMasks(u, rules)
		pseudo := pseudoMasks(u, closed)
		if e != api.OK || len(stem) != len(pseudo) {
			t.Fatalf("Stem(%q, %q): %q, %d", u, rules, stem, e)
		}
		var list []api.Rule
		for i, entry := range stem {
			if !slices.Equal(entry[0], setOf(u, pseudo[i])) || !slices.Equal(entry[1], setOf(u, closureOf(closed, pseudo[i]))) {
				t.Fatalf("Stem(%q, %q): %q", u, rules, stem)
			}
			for _, name := range entry[1] {
				if !slices.Contains(entry[0], name) {
					list = append(list, api.Rule{If: entry[0], Then: name})
				}
			}
		}
		if is, e := Equivalent(u, rules, list); e != api.OK || !is {
			t.Fatalf("Stem(%q, %q): %q is not equivalent", u, rules, stem)
		}
		for _, same := range [][]api.Rule{rules, list, reduceSlowly(u, rules), reduceSlowly(u, list)} {
			if premiseCount(u, same) < len(stem) {
				t.Fatalf("Stem(%q, %q): %q is longer than %q", u, rules, stem, same)
			}
		}
	})
	if stem, e := Stem(nil, nil, 1); e != api.OK || len(stem) != 0 {
		t.Errorf("Stem of the empty universe: %q, %d", stem, e)
	}
	if stem, e := Stem(abc, []api.Rule{{Then: "b"}}, 5); e != api.OK || !reflect.DeepEqual(stem, [][2][]string{{{}, {"b"}}}) {
		t.Errorf("Stem of => b: %q, %d", stem, e)
	}
}

// premiseCount returns the number of different lists of premises of the rules whose conclusion is not one of them.
func premiseCount(u []string, rules []api.Rule) int {
	seen := map[int]bool{}
	for _, r := range rules {
		if !slices.Contains(r.If, r.Then) {
			seen[maskOf(u, r.If)] = true
		}
	}
	return len(seen)
}

// The rules: arguments are not modified, and results share no memory with them or with each other.
func TestSharesNothing(t *testing.T) {
	universe := []string{"a", "b", "c", "d", "spare"}
	rules := []api.Rule{{If: []string{"a", "b"}, Then: "c"}, {If: []string{"b"}, Then: "c"}, {If: []string{"a"}, Then: "b"}, {If: []string{"d"}, Then: "d"}}
	set := []string{"a", "d", "spare"}
	u, s := universe[:4], set[:2]
	run := func() ([][]string, []int) {
		closed, _ := Close(u, rules, s)
		open, _ := Close(u, nil, s)
		list, _ := Reduce(u, rules)
		kept, _ := Reduce(u, rules[2:3])
		all, _ := All(u, rules, 100)
		stem, _ := Stem(u, rules, 100)
		why, _ := Why(u, rules, s, "c")
		all = append(all, closed, open)
		for _, r := range append(list, kept...) {
			all = append(all, r.If)
		}
		for _, entry := range stem {
			all = append(all, entry[0], entry[1])
		}
		return all, why
	}
	Closed(u, rules, s)
	Entails(u, rules, rules[0])
	Equivalent(u, rules, rules[:2])
	first, why := run()
	second, _ := run()
	for i, result := range first {
		for k := range result {
			result[k] = strconv.Itoa(i)
		}
		_ = append(result, "appended")
	}
	clear(why)
	for i, result := range first {
		for _, name := range result {
			if name != strconv.Itoa(i) {
				t.Errorf("two results share memory: %q at %d", name, i)
			}
		}
	}
	if third, again := run(); !reflect.DeepEqual(second, third) || !slices.Equal(again, []int{2, 0}) {
		t.Errorf("a result was modified: %q, %v instead of %q", third, again, second)
	}
	if !slices.Equal(universe, []string{"a", "b", "c", "d", "spare"}) || !slices.Equal(set, []string{"a", "d", "spare"}) || !slices.Equal(rules[0].If, []string{"a", "b"}) || !slices.Equal(rules[2].If, []string{"a"}) {
		t.Errorf("an argument was modified: %q, %q, %q", universe, set, rules)
	}
}

// Large universes: the number of names is not limited, and the time does not grow with what a step does not concern.
func TestLarge(t *testing.T) {
	const n = 20000
	var universe []string
	for i := range n {
		universe = append(universe, "x"+strconv.Itoa(100000+i))
	}
	var rules []api.Rule
	for i := range n - 1 {
		rules = append(rules, api.Rule{If: universe[n-2-i : n-1-i], Then: universe[n-1-i]})
	}
	if set, e := Close(universe, rules, universe[:1]); e != api.OK || len(set) != n {
		t.Errorf("Close: %d names, %d", len(set), e)
	}
	if why, e := Why(universe, rules, universe[:1], universe[n-1]); e != api.OK || len(why) != n-1 || why[0] != n-2 || why[n-2] != 0 {
		t.Errorf("Why: %d rules, %d", len(why), e)
	}
	if is, e := Equivalent(universe, rules, rules); e != api.OK || !is {
		t.Errorf("Equivalent: %t, %d", is, e)
	}
	if all, e := All(universe, nil, 1000); e != api.ErrLimit || len(all) != 0 {
		t.Errorf("All: %d sets, %d", len(all), e)
	}
	if stem, e := Stem(universe, rules[:20], 100); e != api.ErrLimit || len(stem) != 0 {
		t.Errorf("Stem: %d sets, %d", len(stem), e)
	}
	short, few := universe[:1000], []api.Rule{}
	for i := range 999 {
		few = append(few, api.Rule{If: short[i+1 : i+2], Then: short[i]})
	}
	if all, e := All(short, few, 1001); e != api.OK || len(all) != 1001 || !slices.Equal(all[1000], short) || !slices.Equal(all[1], short[:1]) {
		t.Errorf("All: %d sets, %d", len(all), e)
	}
	if list, e := Reduce(short, append(few, few...)); e != api.OK || len(list) != 999 {
		t.Errorf("Reduce: %d rules, %d", len(list), e)
	}
	if stem, e := Stem(short, few, 2000); e != api.OK || len(stem) != 999 {
		t.Errorf("Stem: %d sets, %d", len(stem), e)
	}
	if all, e := All(universe[:17], nil, 1<<17); e != api.OK || len(all) != 1<<17 {
		t.Errorf("All: %d sets, %d", len(all), e)
	}
}
