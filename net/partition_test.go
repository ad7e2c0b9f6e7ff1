package net_test

import (
	"math"
	"math/rand"
	"testing"

	"plexus/api"
	"plexus/net"
)

// connected is Connected by the definition, with these groups; without any, any two processes are connected.
func connected(split bool, groups [][]int, a, b int) bool {
	if a < 0 || a > api.MaxProcess || b < 0 || b > api.MaxProcess {
		return false
	}
	if !split || a == b {
		return true
	}
	for _, group := range groups {
		hasA, hasB := false, false
		for _, process := range group {
			hasA, hasB = hasA || process == a, hasB || process == b
		}
		if hasA && hasB {
			return true
		}
	}
	return false
}

// checkConnected compares Connected with the definition for all pairs of numbers, some of which are no processes.
func checkConnected(t *testing.T, n *net.Net, split bool, groups [][]int) {
	t.Helper()
	for a := -2; a <= api.MaxProcess+2; a++ {
		for b := -2; b <= api.MaxProcess+2; b++ {
			if got := n.Connected(a, b); got != connected(split, groups, a, b) {
				t.Fatalf("with the groups %v: Connected(%d, %d) is %t", groups, a, b, got)
			}
		}
	}
}

// everyone returns a group of all processes.
func everyone() []int {
	var list []int
	for process := range api.MaxProcess + 1 {
		list = append(list, process)
	}
	return list
}

// P28.2: which processes are connected at first, in groups, and when they are healed.
func TestConnected(t *testing.T) {
	n := made(t, 1)
	checkConnected(t, n, false, nil)
	for _, groups := range [][][]int{
		nil, {}, {{}}, {nil, nil, {}}, {{0}}, {{63}}, {{0, 63}}, {{5, 3, 4}}, {{1, 2}, {3, 4}}, {{2, 1}, {}, {0, 4, 3}, {6}},
		{everyone()}, {everyone()[:32], everyone()[32:]}, {{}, everyone()[1:], {0}},
	} {
		if e := n.Partition(groups); e != api.OK {
			t.Errorf("Partition(%v): %d", groups, e)
		}
		checkConnected(t, n, true, groups)
	}
	for range 2 {
		n.Heal()
		checkConnected(t, n, false, nil)
	}
	for _, number := range []int{math.MinInt, -1, 64, math.MaxInt} {
		if n.Connected(number, number) || n.Connected(number, 0) || n.Connected(0, number) {
			t.Errorf("%d is connected", number)
		}
	}
}

// Partition: with an error the earlier groups stay.
func TestPartitionErrors(t *testing.T) {
	for _, split := range []bool{false, true} {
		n, earlier := made(t, 1), [][]int{{1, 2, 3}, {4, 5}}
		if split {
			n.Partition(earlier)
		}
		for _, groups := range [][][]int{
			{{-1}}, {{64}}, {{math.MinInt}}, {{math.MaxInt}}, {{1, 4}, {64}}, {{64}, {1, 4}}, {{1, -1, 4}}, {{1, 4, 5, 1000}},
			{{1, 1}}, {{1, 4, 1}}, {{1, 4}, {1}}, {{1}, {4}, {}, {5, 1}}, {{0, 0}}, {{63}, {63}}, append([][]int{everyone()}, []int{0}),
		} {
			if e := n.Partition(groups); e != api.ErrArgument {
				t.Errorf("Partition(%v): %d", groups, e)
			}
			checkConnected(t, n, split, earlier)
		}
	}
}

// P28.2: random groups, of which each replaces the earlier ones.
func TestRandomGroups(t *testing.T) {
	source := rand.New(rand.NewSource(3))
	n := made(t, 1)
	for range 300 {
		groups := randomGroups(source)
		if e := n.Partition(groups); e != api.OK {
			t.Fatalf("Partition(%v): %d", groups, e)
		}
		checkConnected(t, n, true, groups)
	}
}

// randomGroups returns a few groups of some processes.
func randomGroups(source *rand.Rand) [][]int {
	groups := make([][]int, 1+source.Intn(5))
	for _, process := range source.Perm(api.MaxProcess + 1)[:source.Intn(api.MaxProcess+2)] {
		i := source.Intn(len(groups))
		groups[i] = append(groups[i], process)
	}
	return groups
}
