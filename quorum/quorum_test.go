package quorum_test

import (
	"math/bits"
	"math/rand"
	"reflect"
	"slices"
	"testing"

	"plexus/api"
	"plexus/quorum"
	"plexus/sample"
)

// P31.2 to P31.6: the examples.
func TestExamples(t *testing.T) {
	for _, c := range []struct{ mode, n, faults, need, overlap int }{
		{api.Crash, 4, 1, 3, 2}, {api.Lies, 4, 1, 3, 2}, {api.Crash, 5, 2, 3, 1}, {api.Lies, 5, 1, 4, 3},
	} {
		if f, n, o := quorum.Faults(c.mode, c.n), quorum.Need(c.mode, c.n), quorum.Overlap(c.mode, c.n); f != c.faults || n != c.need || o != c.overlap {
			t.Errorf("of %d members in the mode %d: %d, %d, %d", c.n, c.mode, f, n, o)
		}
	}
	group, pairs := []int{2, 5, 7}, [][]int{{2, 5}, {2, 7}, {5, 7}}
	if got := quorum.Minimal(api.Crash, group); !reflect.DeepEqual(got, pairs) {
		t.Errorf("Minimal: %v", got)
	}
	if got := quorum.Blocking(api.Crash, group); !reflect.DeepEqual(got, pairs) {
		t.Errorf("Blocking: %v", got)
	}
	if !quorum.Is(api.Crash, group, []int{7, 7, 9, 2}) || quorum.Is(api.Crash, group, []int{7, 7, 9}) || quorum.Is(api.Crash, []int{5, 2}, []int{5, 2}) {
		t.Error("Is")
	}
	if quorum.Blocks(api.Lies, []int{0, 1, 2, 3}, []int{3}) || !quorum.Blocks(api.Lies, []int{0, 1, 2, 3}, []int{3, 0}) {
		t.Error("Blocks")
	}
}

// P31.1: all groups of both modes are valid.
func TestValid(t *testing.T) {
	for mask := 1; mask < 1<<api.MaxReplicas; mask++ {
		members := picked(everyReplica(), mask)
		if !quorum.Valid(api.Crash, members) || !quorum.Valid(api.Lies, members) {
			t.Fatalf("%v is a group", members)
		}
		// In another order it is none.
		if n := len(members); n > 1 {
			i := mask % (n - 1)
			members[i], members[i+1] = members[i+1], members[i]
			if quorum.Valid(api.Crash, members) || quorum.Valid(api.Lies, members) {
				t.Fatalf("%v is no group", members)
			}
		}
	}
}

// The errors: what is no mode or no group has the results 0, false and nil.
func TestInvalid(t *testing.T) {
	every := everyReplica()
	check := func(mode int, members []int) {
		t.Helper()
		if quorum.Valid(mode, members) || quorum.Is(mode, members, every) || quorum.Is(mode, members, members) || quorum.Minimal(mode, members) != nil {
			t.Errorf("the mode %d and the members %v have a quorum", mode, members)
		}
		if quorum.Blocks(mode, members, every) || quorum.Blocks(mode, members, members) || quorum.Blocking(mode, members) != nil || quorum.Survives(mode, members, nil) || quorum.Survives(mode, members, []int{100}) {
			t.Errorf("the members %v in the mode %d", members, mode)
		}
	}
	for _, members := range noGroups() {
		for _, mode := range modes {
			check(mode, members)
		}
	}
	for _, mode := range noModes {
		check(mode, every)
		check(mode, []int{2, 5, 7})
		check(mode, nil)
	}
	for _, mode := range append(noModes, modes...) {
		sizes := noSizes
		if mode != api.Crash && mode != api.Lies {
			sizes = append(slices.Clone(noSizes), 1, 2, 3, 4, 7, 12)
		}
		for _, n := range sizes {
			if f, k, o := quorum.Faults(mode, n), quorum.Need(mode, n), quorum.Overlap(mode, n); f != 0 || k != 0 || o != 0 {
				t.Errorf("of %d members in the mode %d: %d, %d, %d", n, mode, f, k, o)
			}
		}
	}
}

// P31.2: how many may be faulty, and how many are a quorum.
func TestNumbers(t *testing.T) {
	for _, mode := range modes {
		for n := 1; n <= api.MaxReplicas; n++ {
			want := faults[mode-1][n-1]
			if got := quorum.Faults(mode, n); got != want {
				t.Errorf("Faults(%d, %d): %d", mode, n, got)
			}
			if got := quorum.Need(mode, n); got != n-want {
				t.Errorf("Need(%d, %d): %d", mode, n, got)
			}
		}
	}
}

// P31.3, P31.6 and P31.7: for all subsets of groups of all sizes, given as lists in any order with other numbers among them.
func TestSets(t *testing.T) {
	source := rand.New(rand.NewSource(31))
	for n := 1; n <= api.MaxReplicas; n++ {
		members := source.Perm(api.MaxReplicas)[:n]
		slices.Sort(members)
		for _, mode := range modes {
			all := quorums(mode, n)
			for mask := range 1 << n {
				x := mixed(source, members, picked(members, mask))
				was, group := slices.Clone(x), slices.Clone(members)
				if got := quorum.Is(mode, members, x); got != isQuorum(mode, n, mask) {
					t.Fatalf("Is(%d, %v, %v): %t", mode, members, x, got)
				}
				if got := quorum.Blocks(mode, members, x); got != blocks(all, mask) {
					t.Fatalf("Blocks(%d, %v, %v): %t", mode, members, x, got)
				}
				if got := quorum.Survives(mode, members, x); got != isQuorum(mode, n, 1<<n-1-mask) {
					t.Fatalf("Survives(%d, %v, %v): %t", mode, members, x, got)
				}
				if !slices.Equal(x, was) || !slices.Equal(members, group) {
					t.Fatalf("the arguments %v and %v are changed", group, was)
				}
			}
		}
	}
}

// P31.4 and P31.6: the least quorums and the least sets that block, of groups of all sizes, by the definitions.
func TestLeastSets(t *testing.T) {
	source := rand.New(rand.NewSource(314))
	for n := 1; n <= api.MaxReplicas; n++ {
		members := source.Perm(api.MaxReplicas)[:n]
		slices.Sort(members)
		group := slices.Clone(members)
		for _, mode := range modes {
			least := leastSets(n, func(mask int) bool { return isQuorum(mode, n, mask) })
			if got := quorum.Minimal(mode, members); !reflect.DeepEqual(got, lists(members, least)) || !sample.Separate(members, got) {
				t.Errorf("Minimal(%d, %v): %v", mode, members, got)
			}
			// What has a member in common with the least quorums has one with all of them.
			least = leastSets(n, func(mask int) bool { return blocks(least, mask) })
			if got := quorum.Blocking(mode, members); !reflect.DeepEqual(got, lists(members, least)) || !sample.Separate(members, got) {
				t.Errorf("Blocking(%d, %v): %v", mode, members, got)
			}
		}
		if !slices.Equal(members, group) {
			t.Errorf("the group %v is changed", group)
		}
	}
}

// P31.5 and P31.8: any two quorums have so many members in common, and two have no more.
func TestOverlap(t *testing.T) {
	for _, mode := range modes {
		for n := 1; n <= api.MaxReplicas; n++ {
			least, all := n, quorums(mode, n)
			for _, a := range all {
				for _, b := range all {
					least = min(least, bits.OnesCount(uint(a&b)))
				}
			}
			if got := quorum.Overlap(mode, n); got != least {
				t.Errorf("Overlap(%d, %d): %d instead of %d", mode, n, got, least)
			}
			if got := quorum.Overlap(mode, n); got < 1 || mode == api.Lies && got <= quorum.Faults(mode, n) {
				t.Errorf("two quorums of %d members in the mode %d have only %d in common", n, mode, got)
			}
		}
	}
}

// P31.8: the consequences, of all groups.
func TestConsequences(t *testing.T) {
	source := rand.New(rand.NewSource(318))
	for mask := 1; mask < 1<<api.MaxReplicas; mask++ {
		members := picked(everyReplica(), mask)
		n := len(members)
		for _, mode := range modes {
			inside, outside := divided(source, members)
			if quorum.Survives(mode, members, inside) != (len(inside) <= quorum.Faults(mode, n)) {
				t.Fatalf("the members %v in the mode %d, if %v are faulty", members, mode, inside)
			}
			if quorum.Blocks(mode, members, inside) == quorum.Is(mode, members, outside) {
				t.Fatalf("the members %v in the mode %d: %v blocks if and only if %v contains no quorum", members, mode, inside, outside)
			}
		}
	}
	for _, mode := range modes {
		for n := 1; n <= api.MaxReplicas; n++ {
			members := everyReplica()[api.MaxReplicas-n:]
			for _, q := range quorum.Minimal(mode, members) {
				if len(q) != quorum.Need(mode, n) {
					t.Errorf("the quorum %v of %d members in the mode %d", q, n, mode)
				}
			}
			for _, b := range quorum.Blocking(mode, members) {
				if len(b) != quorum.Faults(mode, n)+1 {
					t.Errorf("%v blocks %d members in the mode %d", b, n, mode)
				}
			}
		}
	}
}

// divided returns some of the members of a group, and the others.
func divided(source *rand.Rand, members []int) (inside, outside []int) {
	mask := source.Intn(1 << len(members))
	return picked(members, mask), picked(members, 1<<len(members)-1-mask)
}

// P1: lists of any length.
func TestLongLists(t *testing.T) {
	x := make([]int, 1<<20)
	for i := range x {
		x[i] = 12 + i
	}
	members := everyReplica()
	if quorum.Is(api.Crash, members, x) || quorum.Blocks(api.Crash, members, x) || !quorum.Survives(api.Crash, members, x) {
		t.Error("a long list without members")
	}
	x = append(x, members[:7]...)
	if !quorum.Is(api.Crash, members, x) || !quorum.Blocks(api.Crash, members, x) || quorum.Survives(api.Crash, members, x) {
		t.Error("a long list with seven members")
	}
	if quorum.Is(api.Crash, members, nil) || quorum.Blocks(api.Crash, members, nil) || !quorum.Survives(api.Lies, members, nil) {
		t.Error("the empty list")
	}
}
