package decide_test

import (
	"math"
	"math/rand"
	"slices"
	"testing"

	"plexus/api"
	"plexus/decide"
	"plexus/sample"
)

// TestBelow covers P22.1: which of some data of one sort are in order.
func TestBelow(t *testing.T) {
	for _, c := range []struct {
		a, b api.Datum
		want bool
	}{
		{number(1), number(2), true}, {number(2), number(2), true}, {number(3), number(2), false}, {number(-3), number(2), true}, {number(math.MinInt64), number(math.MaxInt64), true}, {number(math.MaxInt64), number(math.MinInt64), false},
		{truth(0), truth(1), true}, {truth(1), truth(1), true}, {truth(1), truth(0), false}, {truth(-7), truth(7), true}, {truth(7), truth(1), false},
		{name("a"), name("a"), true}, {name("a"), name("b"), false}, {name("b"), name("a"), false}, {name(""), name("a"), false}, {name(""), name(""), true}, {name("A"), name("A"), true},
		{set(), set(), true}, {set(), set("a"), true}, {set("a"), set(), false}, {set("a"), set("a", "b"), true}, {set("b"), set("a"), false}, {set("a", "c"), set("a", "b"), false}, {set("a", "b"), set("a"), false},
		{set("b", "a"), set("a", "b"), true}, {set("a", "b"), set("b", "a"), true}, {set("a", "a"), set("a"), true}, {set("b", "a", "b"), set("c", "a", "b", "a"), true}, {set("c", "a", "c"), set("a", "b", "b"), false}, {set("", "A"), set("A", "b", ""), true}, {set(""), set("a"), false}, {set(""), set(), false},
	} {
		if decide.Below(c.a, c.b) != c.want {
			t.Errorf("%v, %v: %v", c.a, c.b, !c.want)
		}
	}
	if !decide.Below(api.Datum{Sort: api.SortNames}, api.Datum{Sort: api.SortNames, Names: []string{}}) || !decide.Below(api.Datum{Sort: api.SortNames, Names: []string{}}, api.Datum{Sort: api.SortNames}) {
		t.Error("no names")
	}
}

// TestBelowSorts covers P22.1: data of different sorts are not in order, and so are those whose sort is none.
func TestBelowSorts(t *testing.T) {
	all := []int{0, 1, 2, 3, 4, 5, -1, math.MaxInt, math.MinInt}
	for _, a := range all {
		for _, b := range all {
			want := a == b && a >= api.SortInt && a <= api.SortNames
			if decide.Below(api.Datum{Sort: a}, api.Datum{Sort: b}) != want {
				t.Errorf("%d, %d: %v", a, b, !want)
			}
		}
	}
}

// TestBelowFields covers P22.1: fields that the sort does not use do not matter.
func TestBelowFields(t *testing.T) {
	source := rand.New(rand.NewSource(3))
	for range 5000 {
		a, b := sample.AnyDatum(source.Intn), sample.AnyDatum(source.Intn)
		a.Sort, b.Sort = 1+source.Intn(4), 1+source.Intn(4)
		want := a.Sort == b.Sort
		switch a.Sort {
		case api.SortInt, api.SortBool:
			want = want && a.N <= b.N
		case api.SortName:
			want = want && a.Name == b.Name
		default:
			want = want && !slices.ContainsFunc(a.Names, func(s string) bool { return !slices.Contains(b.Names, s) })
		}
		before := text(a) + text(b)
		if decide.Below(a, b) != want || text(a)+text(b) != before {
			t.Fatalf("%v, %v: %v", a, b, !want)
		}
	}
}
