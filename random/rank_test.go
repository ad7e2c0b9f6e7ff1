package random

import (
	"math"
	"math/rand"
	"slices"
	"testing"

	"plexus/api"
)

// P6.6: the numbers of Pascal's triangle, 0 outside.
func TestChoose(t *testing.T) {
	row := []uint64{1}
	for n := range 61 {
		for _, k := range []int{-1, -2, -60, math.MinInt, n + 1, n + 2, 61, 100, math.MaxInt} {
			if count, e := Choose(n, k); e != api.OK || count != 0 {
				t.Errorf("Choose(%d, %d): %d, %d", n, k, count, e)
			}
		}
		for k, want := range row {
			if count, e := Choose(n, k); e != api.OK || count != want {
				t.Errorf("Choose(%d, %d): %d, %d instead of %d", n, k, count, e, want)
			}
		}
		next := []uint64{1}
		for k := range n {
			next = append(next, row[k]+row[k+1])
		}
		row = append(next, 1)
	}
	if count, _ := Choose(4, 2); count != 6 {
		t.Errorf("the example 3: %d", count)
	}
}

// The errors of Choose: also where k is negative or greater than n.
func TestChooseErrors(t *testing.T) {
	for _, n := range []int{-1, -60, 61, 62, math.MinInt, math.MaxInt} {
		for _, k := range []int{0, 1, -1, n, 100, math.MinInt, math.MaxInt} {
			if count, e := Choose(n, k); e != api.ErrArgument || count != 0 {
				t.Errorf("Choose(%d, %d): %d, %d", n, k, count, e)
			}
		}
	}
}

// allPermutations returns the permutations of 0 to n-1, sorted.
func allPermutations(n int) [][]int {
	lists := [][]int{nil}
	for range n {
		var longer [][]int
		for _, list := range lists {
			for element := range n {
				if !slices.Contains(list, element) {
					longer = append(longer, append(slices.Clone(list), element))
				}
			}
		}
		lists = longer
	}
	slices.SortFunc(lists, slices.Compare)
	return lists
}

// allSubsets returns the increasing lists of k elements from 0 to n-1, sorted.
func allSubsets(n, k int) [][]int {
	var lists [][]int
	for mask := range 1 << n {
		var list []int
		for element := range n {
			if mask>>element&1 == 1 {
				list = append(list, element)
			}
		}
		if len(list) == k {
			lists = append(lists, list)
		}
	}
	slices.SortFunc(lists, slices.Compare)
	return lists
}

// P6.7: all permutations of up to seven elements.
func TestAllPermutations(t *testing.T) {
	for n := range 8 {
		lists := allPermutations(n)
		for rank, p := range lists {
			if got, e := RankPermutation(p); e != api.OK || got != uint64(rank) {
				t.Fatalf("RankPermutation(%v): %d, %d instead of %d", p, got, e, rank)
			}
			if got, e := UnrankPermutation(n, uint64(rank)); e != api.OK || !slices.Equal(got, p) {
				t.Fatalf("UnrankPermutation(%d, %d): %v, %d instead of %v", n, rank, got, e, p)
			}
		}
		if got, e := UnrankPermutation(n, uint64(len(lists))); e != api.ErrArgument || len(got) != 0 {
			t.Errorf("UnrankPermutation(%d, %d): %v, %d", n, len(lists), got, e)
		}
	}
	if rank, e := RankPermutation([]int{2, 0, 1}); e != api.OK || rank != 4 {
		t.Errorf("the example 3: %d, %d", rank, e)
	}
}

// P6.7: the first and the last permutation of up to twenty elements.
func TestFirstAndLastPermutation(t *testing.T) {
	count := uint64(1)
	for n := range 21 {
		count *= uint64(max(n, 1))
		p := make([]int, n)
		for i := range p {
			p[i] = i
		}
		for _, rank := range []uint64{0, count - 1} {
			got, e := RankPermutation(p)
			if e != api.OK || got != rank {
				t.Errorf("RankPermutation(%v): %d, %d instead of %d", p, got, e, rank)
			}
			if q, e := UnrankPermutation(n, rank); e != api.OK || !slices.Equal(p, q) {
				t.Errorf("UnrankPermutation(%d, %d): %v, %d", n, rank, q, e)
			}
			slices.Reverse(p)
			if n < 2 {
				break
			}
		}
		for _, rank := range []uint64{count, count + 1, math.MaxUint64} {
			if q, e := UnrankPermutation(n, rank); e != api.ErrArgument || len(q) != 0 {
				t.Errorf("UnrankPermutation(%d, %d): %v, %d", n, rank, q, e)
			}
		}
	}
}

// P6.7: permutations at random: the ranks are inverse, and in the order of the lists.
func TestPermutationsAtRandom(t *testing.T) {
	source := rand.New(rand.NewSource(1))
	for range 2000 {
		n := 8 + source.Intn(13)
		p, q := source.Perm(n), source.Perm(n)
		if source.Intn(2) == 0 {
			q = slices.Clone(p)
			i := source.Intn(n - 1)
			q[i], q[i+1] = q[i+1], q[i]
		}
		a, e := RankPermutation(p)
		b, e2 := RankPermutation(q)
		if e != api.OK || e2 != api.OK || (a < b) != (slices.Compare(p, q) < 0) || (a == b) != slices.Equal(p, q) {
			t.Fatalf("%v has the rank %d (%d), %v the rank %d (%d)", p, a, e, q, b, e2)
		}
		if back, e := UnrankPermutation(n, a); e != api.OK || !slices.Equal(back, p) {
			t.Fatalf("UnrankPermutation(%d, %d): %v, %d instead of %v", n, a, back, e, p)
		}
	}
}

// The errors of the functions for permutations.
func TestPermutationErrors(t *testing.T) {
	long := make([]int, 21)
	for i := range long {
		long[i] = i
	}
	for _, p := range [][]int{
		{1}, {-1}, {0, 0}, {1, 1}, {1, 2}, {0, 2}, {0, -1}, {2, 0, 2}, {0, 1, 3}, {1, 0, 1}, {3, 1, 2}, {math.MinInt}, {math.MaxInt}, {0, math.MinInt}, {0, 1, math.MaxInt},
		make([]int, 20), append(slices.Clone(long[:19]), 20), append(slices.Clone(long[:19]), 0), long, make([]int, 1000), long[1:],
	} {
		if rank, e := RankPermutation(p); e != api.ErrArgument || rank != 0 {
			t.Errorf("RankPermutation(%v): %d, %d", p, rank, e)
		}
	}
	for _, n := range []int{-1, 21, 22, 64, math.MinInt, math.MaxInt} {
		for _, rank := range []uint64{0, 1, math.MaxUint64} {
			if p, e := UnrankPermutation(n, rank); e != api.ErrArgument || len(p) != 0 {
				t.Errorf("UnrankPermutation(%d, %d): %v, %d", n, rank, p, e)
			}
		}
	}
	if rank, e := RankPermutation(nil); e != api.OK || rank != 0 {
		t.Errorf("RankPermutation(nil): %d, %d", rank, e)
	}
}

// P6.7: all increasing lists of up to nine elements.
func TestAllSubsets(t *testing.T) {
	for n := range 10 {
		for k := range n + 1 {
			lists := allSubsets(n, k)
			for rank, list := range lists {
				if got, e := RankSubset(n, list); e != api.OK || got != uint64(rank) {
					t.Fatalf("RankSubset(%d, %v): %d, %d instead of %d", n, list, got, e, rank)
				}
				if got, e := UnrankSubset(n, k, uint64(rank)); e != api.OK || !slices.Equal(got, list) {
					t.Fatalf("UnrankSubset(%d, %d, %d): %v, %d instead of %v", n, k, rank, got, e, list)
				}
			}
			if got, e := UnrankSubset(n, k, uint64(len(lists))); e != api.ErrArgument || len(got) != 0 {
				t.Errorf("UnrankSubset(%d, %d, %d): %v, %d", n, k, len(lists), got, e)
			}
		}
	}
	if rank, e := RankSubset(4, []int{1, 3}); e != api.OK || rank != 4 {
		t.Errorf("the example 3: %d, %d", rank, e)
	}
}

// P6.7: the first and the last increasing list of any length.
func TestFirstAndLastSubset(t *testing.T) {
	for n := range 61 {
		for k := range n + 1 {
			count, _ := Choose(n, k)
			first, last := make([]int, k), make([]int, k)
			for i := range k {
				first[i], last[i] = i, n-k+i
			}
			for _, c := range []struct {
				list []int
				rank uint64
			}{{first, 0}, {last, count - 1}} {
				if rank, e := RankSubset(n, c.list); e != api.OK || rank != c.rank {
					t.Fatalf("RankSubset(%d, %v): %d, %d instead of %d", n, c.list, rank, e, c.rank)
				}
				if list, e := UnrankSubset(n, k, c.rank); e != api.OK || !slices.Equal(list, c.list) {
					t.Fatalf("UnrankSubset(%d, %d, %d): %v, %d", n, k, c.rank, list, e)
				}
			}
			for _, rank := range []uint64{count, count + 1, math.MaxUint64} {
				if list, e := UnrankSubset(n, k, rank); e != api.ErrArgument || len(list) != 0 {
					t.Fatalf("UnrankSubset(%d, %d, %d): %v, %d", n, k, rank, list, e)
				}
			}
		}
	}
}

// P6.7: increasing lists at random: the ranks are inverse, and in the order of the lists.
func TestSubsetsAtRandom(t *testing.T) {
	source := rand.New(rand.NewSource(2))
	for range 2000 {
		n := 10 + source.Intn(51)
		k := source.Intn(n + 1)
		p, q := source.Perm(n)[:k], source.Perm(n)[:k]
		slices.Sort(p)
		slices.Sort(q)
		a, e := RankSubset(n, p)
		b, e2 := RankSubset(n, q)
		if e != api.OK || e2 != api.OK || (a < b) != (slices.Compare(p, q) < 0) || (a == b) != slices.Equal(p, q) {
			t.Fatalf("of %d elements, %v has the rank %d (%d), %v the rank %d (%d)", n, p, a, e, q, b, e2)
		}
		if back, e := UnrankSubset(n, k, a); e != api.OK || !slices.Equal(back, p) {
			t.Fatalf("UnrankSubset(%d, %d, %d): %v, %d instead of %v", n, k, a, back, e, p)
		}
		if count, _ := Choose(n, k); a+1 < count {
			next, e := UnrankSubset(n, k, a+1)
			if rank, e2 := RankSubset(n, next); e != api.OK || e2 != api.OK || rank != a+1 || slices.Compare(p, next) >= 0 {
				t.Fatalf("of %d elements, %v follows on %v (%d, %d)", n, next, p, e, e2)
			}
		}
	}
}

// The errors of RankSubset.
func TestRankSubsetErrors(t *testing.T) {
	long := make([]int, 1000000)
	for i := range long {
		long[i] = i
	}
	for _, c := range []struct {
		n    int
		list []int
	}{
		{-1, nil}, {61, nil}, {61, []int{0, 1}}, {math.MinInt, nil}, {math.MaxInt, []int{0}}, {-1, []int{-1}},
		{0, []int{0}}, {4, []int{4}}, {4, []int{-1}}, {4, []int{0, 4}}, {4, []int{-1, 2}}, {60, []int{59, 60}}, {60, []int{math.MaxInt}}, {60, []int{math.MinInt}}, {60, []int{0, math.MinInt}}, {60, []int{math.MaxInt, 0}},
		{4, []int{1, 1}}, {4, []int{2, 1}}, {4, []int{0, 2, 1}}, {4, []int{0, 0, 1}}, {4, []int{0, 1, 2, 3, 3}}, {4, []int{0, 1, 2, 3, 4}}, {60, long}, {60, long[1:62]},
	} {
		if rank, e := RankSubset(c.n, c.list); e != api.ErrArgument || rank != 0 {
			t.Errorf("RankSubset(%d, %d numbers): %d, %d", c.n, len(c.list), rank, e)
		}
	}
	if rank, e := RankSubset(0, nil); e != api.OK || rank != 0 {
		t.Errorf("RankSubset(0, nil): %d, %d", rank, e)
	}
}

// The errors of UnrankSubset.
func TestUnrankSubsetErrors(t *testing.T) {
	for _, c := range [][2]int{
		{-1, 0}, {-1, -1}, {61, 0}, {61, 1}, {61, 61}, {math.MinInt, 0}, {math.MaxInt, 0}, {4, -1}, {4, 5}, {0, 1}, {0, -1}, {60, 61}, {60, -1}, {60, math.MinInt}, {60, math.MaxInt},
	} {
		for _, rank := range []uint64{0, 1, math.MaxUint64} {
			if list, e := UnrankSubset(c[0], c[1], rank); e != api.ErrArgument || len(list) != 0 {
				t.Errorf("UnrankSubset(%d, %d, %d): %v, %d", c[0], c[1], rank, list, e)
			}
		}
	}
}

// The rules: arguments are not modified, and results share no memory with each other.
func TestRanksShareNothing(t *testing.T) {
	p, list := []int{2, 0, 3, 1}, []int{1, 3, 4}
	RankPermutation(p)
	RankSubset(6, list)
	if !slices.Equal(p, []int{2, 0, 3, 1}) || !slices.Equal(list, []int{1, 3, 4}) {
		t.Errorf("an argument was modified: %v, %v", p, list)
	}
	a, _ := UnrankPermutation(4, 13)
	b, _ := UnrankSubset(6, 3, 14)
	for _, result := range [][]int{a, b} {
		clear(result)
		_ = append(result, 9)
	}
	a, e := UnrankPermutation(4, 13)
	b, e2 := UnrankSubset(6, 3, 14)
	rank, e3 := RankPermutation(a)
	rank2, e4 := RankSubset(6, b)
	if e != api.OK || e2 != api.OK || e3 != api.OK || e4 != api.OK || rank != 13 || rank2 != 14 {
		t.Errorf("after a change of a result: %v with the rank %d, %v with the rank %d", a, rank, b, rank2)
	}
}
