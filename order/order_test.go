package order

import (
	"math"
	"math/rand"
	"slices"
	"testing"

	"plexus/api"
)

// sameLists compares lists of lists; nil and empty lists are equal.
func sameLists(a, b [][]int) bool {
	return slices.EqualFunc(a, b, func(x, y []int) bool { return slices.Equal(x, y) })
}

// ints converts a result to a list of lists, so that all results are compared alike.
func ints(pairs [][2]int) [][]int {
	var lists [][]int
	for _, p := range pairs {
		lists = append(lists, []int{p[0], p[1]})
	}
	return lists
}

// functions are the functions of the chapter that need an acyclic relation, all with results of one type.
var functions = []struct {
	name string
	call func(n int, pairs [][2]int) ([][]int, api.Errno)
}{
	{"Reduction", func(n int, pairs [][2]int) ([][]int, api.Errno) {
		list, e := Reduction(n, pairs)
		return ints(list), e
	}},
	{"Sort", func(n int, pairs [][2]int) ([][]int, api.Errno) { return asLists(Sort(n, pairs)) }},
	{"Levels", func(n int, pairs [][2]int) ([][]int, api.Errno) { return asLists(Levels(n, pairs)) }},
	{"LongestChain", func(n int, pairs [][2]int) ([][]int, api.Errno) { return asLists(LongestChain(n, pairs)) }},
	{"MaxAntichain", func(n int, pairs [][2]int) ([][]int, api.Errno) { return asLists(MaxAntichain(n, pairs)) }},
	{"ChainCover", ChainCover},
	{"Downsets", func(n int, pairs [][2]int) ([][]int, api.Errno) { return Downsets(n, pairs, 1<<16) }},
}

// asLists makes a list of lists of a result, empty if the list is empty.
func asLists(list []int, e api.Errno) ([][]int, api.Errno) {
	if len(list) == 0 {
		return nil, e
	}
	return [][]int{list}, e
}

// checkAll compares all functions with the definitions. The number of elements is small.
func checkAll(t *testing.T, n int, pairs [][2]int) {
	t.Helper()
	before := beforeTable(n, pairs)
	if e := Check(n, pairs); e != api.OK {
		t.Fatalf("Check(%d, %v): %d", n, pairs, e)
	}
	closure, e := Closure(n, pairs)
	if want := tablePairs(before, func(a, b int) bool { return true }); e != api.OK || !slices.Equal(closure, want) {
		t.Fatalf("Closure(%d, %v): %v, %d instead of %v", n, pairs, closure, e, want)
	}
	acyclic, e := Acyclic(n, pairs)
	if e != api.OK || acyclic != isAcyclic(before) {
		t.Fatalf("Acyclic(%d, %v): %v, %d", n, pairs, acyclic, e)
	}
	if !acyclic {
		for _, f := range functions {
			if got, e := f.call(n, pairs); e != api.ErrState || len(got) != 0 {
				t.Fatalf("%s(%d, %v): %v, %d", f.name, n, pairs, got, e)
			}
		}
		return
	}
	var levels []int
	for b := range n {
		levels = append(levels, levelOf(before, b))
	}
	wanted := map[string][][]int{
		"Reduction":    ints(tablePairs(before, func(a, b int) bool { return isCover(before, a, b) })),
		"Sort":         {leastOrder(n, pairs)},
		"Levels":       {levels},
		"LongestChain": {longestLeast(allChains(before))},
		"MaxAntichain": {longestLeast(allAntichains(before))},
		"Downsets":     allDownsets(before),
	}
	for _, f := range functions {
		got, e := f.call(n, pairs)
		want, compared := wanted[f.name]
		if e != api.OK || compared && n > 0 && !sameLists(got, want) {
			t.Fatalf("%s(%d, %v): %v, %d instead of %v", f.name, n, pairs, got, e, want)
		}
	}
	checkCover(t, n, pairs, before)
}

// checkCover compares the chains of ChainCover with the definition, and their number with the largest antichain.
func checkCover(t *testing.T, n int, pairs [][2]int, before [][]bool) {
	t.Helper()
	chains, e := ChainCover(n, pairs)
	antichain, e2 := MaxAntichain(n, pairs)
	if e != api.OK || e2 != api.OK || len(chains) != len(antichain) || !isAntichain(before, antichain) {
		t.Fatalf("ChainCover(%d, %v): %v, %d with the antichain %v, %d", n, pairs, chains, e, antichain, e2)
	}
	var all []int
	for i, chain := range chains {
		if len(chain) == 0 || !isChain(before, chain) || i > 0 && chains[i-1][0] >= chain[0] {
			t.Fatalf("ChainCover(%d, %v): chain %d of %v", n, pairs, i, chains)
		}
		all = append(all, chain...)
	}
	slices.Sort(all)
	if !slices.Equal(all, allElements(n)) {
		t.Fatalf("ChainCover(%d, %v): %v", n, pairs, chains)
	}
}

// allElements returns the numbers from 0 to n-1.
func allElements(n int) []int {
	var list []int
	for e := range n {
		list = append(list, e)
	}
	return list
}

// relationOf returns the pairs of n elements that the bits of mask choose.
func relationOf(n, mask int) [][2]int {
	var pairs [][2]int
	for i := range n * n {
		if mask>>i&1 == 1 {
			pairs = append(pairs, [2]int{i / n, i % n})
		}
	}
	return pairs
}

// P4.1 to P4.6: all relations of up to three elements.
func TestAllSmallRelations(t *testing.T) {
	for n := range 4 {
		for mask := range 1 << (n * n) {
			checkAll(t, n, relationOf(n, mask))
		}
	}
}

// P4.1 to P4.6: all relations of four elements without pairs of one element.
func TestAllRelationsOfFour(t *testing.T) {
	const loops = 1<<0 | 1<<5 | 1<<10 | 1<<15
	for mask := range 1 << 16 {
		if mask&loops == 0 {
			checkAll(t, 4, relationOf(4, mask))
		}
	}
}

// randomOrder returns an acyclic relation in which each two elements are a pair with the given chance; the pairs are shuffled, and some occur twice.
func randomOrder(source *rand.Rand, n int, chance float64) [][2]int {
	names := source.Perm(n)
	var pairs [][2]int
	for b := range n {
		for a := range b {
			if source.Float64() < chance && len(pairs) < MaxPairs-1 {
				pairs = append(pairs, [2]int{names[a], names[b]})
				if source.Intn(8) == 0 {
					pairs = append(pairs, pairs[source.Intn(len(pairs))])
				}
			}
		}
	}
	source.Shuffle(len(pairs), func(i, k int) { pairs[i], pairs[k] = pairs[k], pairs[i] })
	return pairs
}

// P4.1 to P4.6: relations of up to eight elements at random.
func TestRandomRelations(t *testing.T) {
	source := rand.New(rand.NewSource(1))
	for range 1500 {
		n := 5 + source.Intn(4)
		pairs := randomOrder(source, n, source.Float64()*0.7)
		if source.Intn(6) == 0 {
			pairs = append(pairs, [2]int{source.Intn(n), source.Intn(n)})
		}
		checkAll(t, n, pairs)
	}
}

// P4.1 to P4.6: the examples.
func TestExamples(t *testing.T) {
	pairs := [][2]int{{0, 1}, {1, 2}, {0, 2}}
	closure, e := Closure(4, pairs)
	if e != api.OK || !slices.Equal(closure, [][2]int{{0, 1}, {0, 2}, {1, 2}}) {
		t.Errorf("Closure: %v, %d", closure, e)
	}
	wanted := map[string][][]int{
		"Reduction": {{0, 1}, {1, 2}}, "Sort": {{0, 1, 2, 3}}, "Levels": {{0, 1, 2, 0}}, "LongestChain": {{0, 1, 2}}, "MaxAntichain": {{0, 3}},
		"Downsets": {{}, {0}, {0, 1}, {0, 1, 2}, {0, 1, 2, 3}, {0, 1, 3}, {0, 3}, {3}},
	}
	for _, f := range functions {
		got, e := f.call(4, pairs)
		if f.name == "ChainCover" {
			// Which cover is returned is unspecified, only its number of chains is not.
			if e != api.OK || len(got) != 2 {
				t.Errorf("%s: %v, %d", f.name, got, e)
			}
		} else if e != api.OK || !sameLists(got, wanted[f.name]) {
			t.Errorf("%s: %v, %d", f.name, got, e)
		}
	}
	list, e := Sort(3, [][2]int{{2, 0}})
	if e != api.OK || !slices.Equal(list, []int{1, 2, 0}) {
		t.Errorf("Sort: %v, %d", list, e)
	}
	if list, e := Sort(2, [][2]int{{0, 1}, {1, 0}}); e != api.ErrState || len(list) != 0 {
		t.Errorf("Sort of a cycle: %v, %d", list, e)
	}
}

// P4.1: a cycle is part of the closure, and a pair of an element and itself is a cycle.
func TestCycles(t *testing.T) {
	closure, e := Closure(4, [][2]int{{2, 0}, {0, 2}, {2, 3}})
	if e != api.OK || !slices.Equal(closure, [][2]int{{0, 0}, {0, 2}, {0, 3}, {2, 0}, {2, 2}, {2, 3}}) {
		t.Errorf("Closure: %v, %d", closure, e)
	}
	for _, pairs := range [][][2]int{{{1, 1}}, {{0, 1}, {1, 2}, {2, 0}}, {{3, 0}, {0, 3}}} {
		if is, e := Acyclic(4, pairs); is || e != api.OK {
			t.Errorf("Acyclic(4, %v): %v, %d", pairs, is, e)
		}
	}
	if is, e := Acyclic(4, [][2]int{{3, 2}, {2, 1}, {1, 0}, {3, 0}}); !is || e != api.OK {
		t.Errorf("Acyclic of a chain: %v, %d", is, e)
	}
}

// No elements: the lists are empty, Acyclic returns true, and Downsets returns one empty set.
func TestNoElements(t *testing.T) {
	for _, pairs := range [][][2]int{nil, {}} {
		closure, e := Closure(0, pairs)
		acyclic, e2 := Acyclic(0, pairs)
		if e != api.OK || len(closure) != 0 || e2 != api.OK || !acyclic {
			t.Errorf("Closure: %v, %d; Acyclic: %v, %d", closure, e, acyclic, e2)
		}
		for _, f := range functions {
			got, e := f.call(0, pairs)
			want := [][]int{}
			if f.name == "Downsets" {
				want = [][]int{{}}
			}
			if e != api.OK || !sameLists(got, want) {
				t.Errorf("%s: %v, %d", f.name, got, e)
			}
		}
		if all, e := Downsets(0, pairs, 1); e != api.OK || !sameLists(all, [][]int{{}}) {
			t.Errorf("Downsets: %v, %d", all, e)
		}
	}
}

// The errors of the table, and which of them comes first.
func TestErrors(t *testing.T) {
	full := make([][2]int, MaxPairs)
	for i := range full {
		full[i] = [2]int{0, 1}
	}
	tooMany := append(slices.Clone(full), [2]int{0, 1})
	tooManyBad := append(slices.Clone(full), [2]int{0, 9})
	for _, c := range []struct {
		n     int
		pairs [][2]int
		want  api.Errno
	}{
		{-1, nil, api.ErrArgument}, {65, nil, api.ErrArgument}, {math.MinInt, nil, api.ErrArgument}, {math.MaxInt, nil, api.ErrArgument}, {MaxSize, nil, api.OK}, {0, nil, api.OK},
		{65, tooManyBad, api.ErrArgument}, {-1, [][2]int{{0, 0}}, api.ErrArgument}, {65, [][2]int{{64, 0}}, api.ErrArgument},
		{2, full, api.OK}, {2, tooMany, api.ErrLimit}, {2, tooManyBad, api.ErrLimit}, {0, tooMany, api.ErrLimit},
		{2, [][2]int{{0, 2}}, api.ErrRange}, {2, [][2]int{{2, 0}}, api.ErrRange}, {2, [][2]int{{0, -1}}, api.ErrRange}, {2, [][2]int{{-1, 0}}, api.ErrRange}, {0, [][2]int{{0, 0}}, api.ErrRange},
		{2, [][2]int{{0, 1}, {1, 0}, {0, 5}}, api.ErrRange}, {2, [][2]int{{math.MinInt, math.MaxInt}}, api.ErrRange}, {64, [][2]int{{0, 63}, {0, 64}}, api.ErrRange}, {64, [][2]int{{63, 0}}, api.OK},
	} {
		if e := Check(c.n, c.pairs); e != c.want {
			t.Errorf("Check(%d, %d pairs): %d instead of %d", c.n, len(c.pairs), e, c.want)
		}
		if c.want == api.OK {
			continue
		}
		if list, e := Closure(c.n, c.pairs); e != c.want || len(list) != 0 {
			t.Errorf("Closure(%d, %d pairs): %v, %d instead of %d", c.n, len(c.pairs), list, e, c.want)
		}
		if is, e := Acyclic(c.n, c.pairs); e != c.want || is {
			t.Errorf("Acyclic(%d, %d pairs): %v, %d instead of %d", c.n, len(c.pairs), is, e, c.want)
		}
		for _, f := range functions {
			if got, e := f.call(c.n, c.pairs); e != c.want || len(got) != 0 {
				t.Errorf("%s(%d, %d pairs): %v, %d instead of %d", f.name, c.n, len(c.pairs), got, e, c.want)
			}
		}
		if got, e := Downsets(c.n, c.pairs, 0); e != c.want || len(got) != 0 {
			t.Errorf("Downsets(%d, %d pairs, 0): %v, %d instead of %d", c.n, len(c.pairs), got, e, c.want)
		}
	}
}

// The errors of Downsets: the limit is checked before the cycles, and counts the sets.
func TestDownsetsErrors(t *testing.T) {
	cycle := [][2]int{{0, 1}, {1, 0}}
	for _, c := range []struct {
		n     int
		pairs [][2]int
		limit int
		want  api.Errno
	}{
		{2, cycle, 0, api.ErrArgument}, {2, cycle, -1, api.ErrArgument}, {2, cycle, math.MinInt, api.ErrArgument}, {2, nil, 0, api.ErrArgument}, {0, nil, 0, api.ErrArgument},
		{2, cycle, 1, api.ErrState}, {3, [][2]int{{2, 2}}, 1, api.ErrState}, {64, [][2]int{{5, 5}}, math.MaxInt, api.ErrState},
		{1, nil, 1, api.ErrLimit}, {2, nil, 3, api.ErrLimit}, {2, [][2]int{{0, 1}}, 2, api.ErrLimit}, {64, nil, 1000, api.ErrLimit}, {64, nil, math.MaxInt, api.ErrLimit},
		{1, nil, 2, api.OK}, {2, nil, 4, api.OK}, {2, [][2]int{{0, 1}}, 3, api.OK}, {2, nil, math.MaxInt, api.OK},
	} {
		all, e := Downsets(c.n, c.pairs, c.limit)
		if e != c.want || (len(all) != 0) != (e == api.OK) {
			t.Errorf("Downsets(%d, %v, %d): %d sets, %d instead of %d", c.n, c.pairs, c.limit, len(all), e, c.want)
		}
	}
}

// The other checks of large relations are by what the promises say are their consequences.
func TestLargeRelations(t *testing.T) {
	source := rand.New(rand.NewSource(2))
	for i := range 120 {
		n := 40 + source.Intn(25)
		if i%10 == 0 {
			n = MaxSize
		}
		pairs := randomOrder(source, n, source.Float64()*source.Float64()*source.Float64())
		before := beforeTable(n, pairs)
		checkClosureAndReduction(t, n, pairs, before)
		checkSort(t, n, pairs, before)
		checkLevels(t, n, pairs, before)
		checkCover(t, n, pairs, before)
		checkDownsets(t, n, pairs, before)
	}
}

// P4.1 and P4.2.
func checkClosureAndReduction(t *testing.T, n int, pairs [][2]int, before [][]bool) {
	t.Helper()
	closure, e := Closure(n, pairs)
	if e != api.OK || !slices.Equal(closure, tablePairs(before, func(a, b int) bool { return true })) {
		t.Fatalf("Closure(%d, %v): %v, %d", n, pairs, closure, e)
	}
	reduction, e := Reduction(n, pairs)
	if e != api.OK || !slices.Equal(reduction, tablePairs(before, func(a, b int) bool { return isCover(before, a, b) })) {
		t.Fatalf("Reduction(%d, %v): %v, %d", n, pairs, reduction, e)
	}
	if again, e := Closure(n, reduction); e != api.OK || !slices.Equal(again, closure) {
		t.Fatalf("the closure of the reduction of %d, %v: %v, %d", n, pairs, again, e)
	}
}

// P4.3: each element of the list is the least one that could follow there.
func checkSort(t *testing.T, n int, pairs [][2]int, before [][]bool) {
	t.Helper()
	list, e := Sort(n, pairs)
	sorted := slices.Clone(list)
	slices.Sort(sorted)
	if e != api.OK || !slices.Equal(sorted, allElements(n)) || !respects(list, pairs) {
		t.Fatalf("Sort(%d, %v): %v, %d", n, pairs, list, e)
	}
	for i, chosen := range list {
		for _, e := range list[i:] {
			if e < chosen && isDownset(before, append(slices.Clone(list[:i]), e)) {
				t.Fatalf("Sort(%d, %v): %v has %d before %d", n, pairs, list, chosen, e)
			}
		}
	}
}

// P4.4: the elements of one level are an antichain, and there are as many levels as elements of the longest chain.
func checkLevels(t *testing.T, n int, pairs [][2]int, before [][]bool) {
	t.Helper()
	levels, e := Levels(n, pairs)
	if e != api.OK || len(levels) != n {
		t.Fatalf("Levels(%d, %v): %v, %d", n, pairs, levels, e)
	}
	for b := range n {
		highest := -1
		for a := range n {
			if before[a][b] {
				highest = max(highest, levels[a])
			}
		}
		if levels[b] != highest+1 {
			t.Fatalf("Levels(%d, %v): %v", n, pairs, levels)
		}
	}
	chain, e := LongestChain(n, pairs)
	if e != api.OK || len(chain) != slices.Max(levels)+1 || !isChain(before, chain) {
		t.Fatalf("LongestChain(%d, %v): %v, %d with the levels %v", n, pairs, chain, e, levels)
	}
}

// P4.6: an error, or sets that are down-closed and increase.
func checkDownsets(t *testing.T, n int, pairs [][2]int, before [][]bool) {
	t.Helper()
	const limit = 3000
	all, e := Downsets(n, pairs, limit)
	if e == api.ErrLimit && len(all) == 0 {
		return
	}
	if e != api.OK || len(all) > limit || len(all) <= n {
		t.Fatalf("Downsets(%d, %v): %d sets, %d", n, pairs, len(all), e)
	}
	for i, set := range all {
		if !isDownset(before, set) || i > 0 && slices.Compare(all[i-1], set) >= 0 {
			t.Fatalf("Downsets(%d, %v): set %d is %v", n, pairs, i, set)
		}
	}
	if again, e := Downsets(n, pairs, len(all)); e != api.OK || !sameLists(again, all) {
		t.Fatalf("Downsets(%d, %v, %d): %d sets, %d", n, pairs, len(all), len(again), e)
	}
	if again, e := Downsets(n, pairs, len(all)-1); e != api.ErrLimit || len(again) != 0 {
		t.Fatalf("Downsets(%d, %v, %d): %d sets, %d", n, pairs, len(all)-1, len(again), e)
	}
}

// P4.4 and P4.5: the lexicographically least ones of many chains and antichains, with up to twelve elements.
func TestLeastChains(t *testing.T) {
	source := rand.New(rand.NewSource(3))
	for range 40 {
		n := 9 + source.Intn(4)
		pairs := randomOrder(source, n, 0.1+source.Float64()*0.3)
		before := beforeTable(n, pairs)
		chain, e := LongestChain(n, pairs)
		if want := longestLeast(allChains(before)); e != api.OK || !slices.Equal(chain, want) {
			t.Fatalf("LongestChain(%d, %v): %v, %d instead of %v", n, pairs, chain, e, want)
		}
		antichain, e := MaxAntichain(n, pairs)
		if want := longestLeast(allAntichains(before)); e != api.OK || !slices.Equal(antichain, want) {
			t.Fatalf("MaxAntichain(%d, %v): %v, %d instead of %v", n, pairs, antichain, e, want)
		}
	}
}

// All promises with 64 elements: one chain in descending numbers, and one antichain.
func TestLargestChainAndAntichain(t *testing.T) {
	var pairs [][2]int
	var down []int
	for e := MaxSize - 1; e >= 0; e-- {
		down = append(down, e)
		for below := range e {
			pairs = append(pairs, [2]int{e, below})
		}
	}
	levels := slices.Clone(down)
	var covers [][]int
	for e := range MaxSize - 1 {
		covers = append(covers, []int{e + 1, e})
	}
	wanted := map[string][][]int{"Reduction": covers, "Sort": {down}, "Levels": {levels}, "LongestChain": {down}, "MaxAntichain": {{0}}, "ChainCover": {down}}
	for _, f := range functions {
		got, e := f.call(MaxSize, pairs)
		if f.name == "Downsets" {
			// The set with the least numbers, which has all elements, is the first one behind the empty set.
			if e != api.OK || len(got) != MaxSize+1 || len(got[0]) != 0 || len(got[1]) != MaxSize || len(got[MaxSize]) != 1 {
				t.Errorf("Downsets of a chain: %v, %d", got, e)
			}
		} else if e != api.OK || !sameLists(got, wanted[f.name]) {
			t.Errorf("%s of a chain: %v, %d", f.name, got, e)
		}
	}
	var singles [][]int
	for e := range MaxSize {
		singles = append(singles, []int{e})
	}
	all := allElements(MaxSize)
	wanted = map[string][][]int{"Reduction": {}, "Sort": {all}, "Levels": {make([]int, MaxSize)}, "LongestChain": {{0}}, "MaxAntichain": {all}, "ChainCover": singles}
	for _, f := range functions {
		got, e := f.call(MaxSize, nil)
		if f.name == "Downsets" {
			if e != api.ErrLimit || len(got) != 0 {
				t.Errorf("Downsets of an antichain: %d sets, %d", len(got), e)
			}
		} else if e != api.OK || !sameLists(got, wanted[f.name]) {
			t.Errorf("%s of an antichain: %v, %d", f.name, got, e)
		}
	}
}

// P4.6: few sets of many elements are found in a short time.
func TestDownsetsOfAscendingChain(t *testing.T) {
	var pairs [][2]int
	wanted := [][]int{{}}
	for e := range MaxSize {
		if e > 0 {
			pairs = append(pairs, [2]int{e - 1, e})
		}
		wanted = append(wanted, allElements(e+1))
	}
	if all, e := Downsets(MaxSize, pairs, MaxSize+1); e != api.OK || !sameLists(all, wanted) {
		t.Errorf("Downsets: %v, %d", all, e)
	}
	if all, e := Downsets(MaxSize, pairs, MaxSize); e != api.ErrLimit || len(all) != 0 {
		t.Errorf("Downsets with a lower limit: %v, %d", all, e)
	}
}

// P4.6: the intersection and the union of two down-closed sets are among them.
func TestDownsetsAreALattice(t *testing.T) {
	source := rand.New(rand.NewSource(4))
	for range 30 {
		n := 1 + source.Intn(6)
		pairs := randomOrder(source, n, 0.3)
		all, e := Downsets(n, pairs, 1<<n)
		if e != api.OK {
			t.Fatalf("Downsets(%d, %v): %d", n, pairs, e)
		}
		has := func(list []int) bool {
			return slices.ContainsFunc(all, func(set []int) bool { return slices.Equal(set, list) })
		}
		for _, a := range all {
			for _, b := range all {
				var both, either []int
				for e := range n {
					inA, inB := slices.Contains(a, e), slices.Contains(b, e)
					if inA && inB {
						both = append(both, e)
					}
					if inA || inB {
						either = append(either, e)
					}
				}
				if !has(both) || !has(either) {
					t.Fatalf("Downsets(%d, %v) lacks %v or %v", n, pairs, both, either)
				}
			}
		}
	}
}

// The order of the pairs and repeated pairs have no influence, arguments are not modified, and results share no memory.
func TestSharesNothing(t *testing.T) {
	full := [][2]int{{0, 1}, {4, 1}, {1, 2}, {0, 2}, {3, 2}, {9, 9}}
	pairs := full[:5]
	other := [][2]int{{3, 2}, {0, 1}, {0, 2}, {0, 1}, {1, 2}, {3, 2}, {4, 1}, {4, 1}}
	for _, f := range functions {
		first, _ := f.call(5, pairs)
		second, _ := f.call(5, pairs)
		if third, e := f.call(5, other); e != api.OK || !sameLists(first, third) {
			t.Errorf("%s: %v instead of %v for the pairs in another order", f.name, third, first)
		}
		kept := make([][]int, len(second))
		for i := range second {
			kept[i] = slices.Clone(second[i])
		}
		for i := range first {
			for k := range first[i] {
				first[i][k] = -1
			}
			_ = append(first[i], -1)
		}
		if !sameLists(second, kept) {
			t.Errorf("%s: two results share memory", f.name)
		}
		for i := range second {
			_ = append(second[i], -1)
			for k := range second[i] {
				second[i][k] = i
			}
		}
		for i := range second {
			if slices.ContainsFunc(second[i], func(e int) bool { return e != i }) {
				t.Errorf("%s: two lists of one result share memory", f.name)
			}
		}
		if again, _ := f.call(5, pairs); !sameLists(again, kept) {
			t.Errorf("%s: %v instead of %v after a change of the results", f.name, again, kept)
		}
	}
	closure, _ := Closure(5, pairs)
	for i := range closure {
		closure[i] = [2]int{-1, -1}
	}
	if !slices.Equal(full, [][2]int{{0, 1}, {4, 1}, {1, 2}, {0, 2}, {3, 2}, {9, 9}}) {
		t.Errorf("the argument was modified: %v", full)
	}
}
