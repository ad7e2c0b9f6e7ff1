// Package names is layer 2: valid names and sets of names. See shared/doc/02-names.md.
package names

import (
	"slices"
	"strings"

	"plexus/api"
)

// maxSubsets is the largest number of elements of a set whose subsets are listed.
const maxSubsets = 10

// Valid reports whether s is a valid name.
func Valid(s string) bool {
	if len(s) == 0 || len(s) > api.MaxName || !isLetter(s[0]) {
		return false
	}
	for i := range len(s) {
		if !inWord(s[i]) {
			return false
		}
	}
	return true
}

// Sorted reports whether the elements of list are strictly increasing.
func Sorted(list []string) bool {
	for i := range len(list) {
		if i > 0 && list[i] <= list[i-1] {
			return false
		}
	}
	return true
}

// Of returns the elements of list, sorted, each once.
func Of(list []string) []string {
	all := slices.Clone(list)
	slices.Sort(all)
	var set []string
	for i, s := range all {
		if i == 0 || all[i-1] < s {
			set = append(set, s)
		}
	}
	return set
}

// Union returns the elements of a or b, sorted, each once.
func Union(a, b []string) []string {
	return Of(slices.Concat(a, b))
}

// Intersect returns the elements of both a and b, sorted, each once.
func Intersect(a, b []string) []string {
	return choose(a, b, true)
}

// Minus returns the elements of a that are not in b, sorted, each once.
func Minus(a, b []string) []string {
	return choose(a, b, false)
}

// Has reports whether s is an element of list.
func Has(list []string, s string) bool {
	for _, t := range list {
		if t == s {
			return true
		}
	}
	return false
}

// Subset reports whether every element of a is an element of b.
func Subset(a, b []string) bool {
	return len(Minus(a, b)) == 0
}

// Compare compares a and b as sets: by the number of elements, then element by element in sorted order.
func Compare(a, b []string) int {
	x, y := Of(a), Of(b)
	if len(x) < len(y) {
		return -1
	}
	if len(x) > len(y) {
		return 1
	}
	for i := range len(x) {
		if x[i] < y[i] {
			return -1
		}
		if x[i] > y[i] {
			return 1
		}
	}
	return 0
}

// Subsets returns all subsets of list in the order of Compare.
func Subsets(list []string) ([][]string, api.Errno) {
	set := Of(list)
	if len(set) > maxSubsets {
		return nil, api.ErrLimit
	}
	all := [][]string{{}}
	// Extending each subset by the greater elements, in order, yields the subsets in order; those that are added are extended in turn.
	for next := 0; next < len(all); next++ {
		for _, s := range set {
			if isAbove(s, all[next]) {
				all = append(all, slices.Concat(all[next], []string{s}))
			}
		}
	}
	return all, api.OK
}

// Text returns the canonical text of the set of the elements of list.
func Text(list []string) (string, api.Errno) {
	for _, s := range list {
		if !Valid(s) {
			return "", api.ErrName
		}
	}
	return "{" + strings.Join(Of(list), ",") + "}", api.OK
}

// choose returns the elements of a that are in b (wanted) or that are not, sorted, each once.
func choose(a, b []string, wanted bool) []string {
	others := Of(b)
	next := 0 // the elements of others before it are less than all that follow in a
	var set []string
	for _, s := range Of(a) {
		for next < len(others) && others[next] < s {
			next++
		}
		found := next < len(others) && others[next] == s
		if found == wanted {
			set = append(set, s)
		}
	}
	return set
}

// isAbove reports whether s is greater than all elements of a sorted set.
func isAbove(s string, set []string) bool {
	return len(set) == 0 || set[len(set)-1] < s
}

// isLetter reports whether c can begin a name.
func isLetter(c byte) bool {
	return 'a' <= c && c <= 'z'
}

// inWord reports whether c can occur in a word of a source.
func inWord(c byte) bool {
	return isLetter(c) || '0' <= c && c <= '9' || c == '-'
}
