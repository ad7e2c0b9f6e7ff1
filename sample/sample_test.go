package sample_test

import (
	"math/rand"
	"testing"

	"plexus/api"
	"plexus/lattice"
	"plexus/sample"
	"plexus/value"
)

// TestDescriptions checks that descriptions are valid or not, and that the elements are different elements of them.
func TestDescriptions(t *testing.T) {
	for _, l := range append(sample.Finite(), sample.Nested()...) {
		codes := map[string]bool{}
		for _, v := range sample.Elements(l) {
			b, e := value.Encode(l, v)
			if e != api.OK || codes[string(b)] {
				t.Errorf("%v in %v: %d", v, l, e)
			}
			codes[string(b)] = true
		}
		if len(codes) == 0 || len(codes) > 300 {
			t.Errorf("%v has %d elements", l, len(codes))
		}
	}
	for _, l := range sample.Invalid() {
		if lattice.Check(l) == api.OK {
			t.Errorf("%v is valid", l)
		}
	}
}

// TestElements checks how many elements there are.
func TestElements(t *testing.T) {
	flag, set, ab := api.Lattice{Kind: api.Flag}, api.Lattice{Kind: api.Set}, []string{"a", "b"}
	for i, c := range []struct {
		l    api.Lattice
		want int
	}{
		{flag, 2}, {sample.Bounds(api.Min, -1, 3), 5}, {set, 4}, {sample.Words(api.Set, "a", "b", "c"), 8}, {api.Lattice{Kind: api.Flat}, 4}, {sample.Words(api.Flat, "a"), 3}, {sample.MapOf(sample.Bounds(api.Max, 0, 2)), 9}, {sample.MapOf(set, "k"), 4}, {sample.Product(flag, set), 8}, {sample.Lex(flag, set), 8}, {sample.Closed(ab, api.Rule{If: []string{"a"}, Then: "b"}), 3},
		// Ten registers without the clock 1:1.2:1, and two with it: only 1:2 can be beside it.
		{api.Lattice{Kind: api.Register}, 12},
	} {
		if n := len(sample.Elements(c.l)); n != c.want {
			t.Errorf("case %d: %d elements", i, n)
		}
	}
}

// TestRandom checks that random elements are elements, and that several of them occur.
func TestRandom(t *testing.T) {
	source := rand.New(rand.NewSource(1))
	for _, l := range sample.Objects() {
		codes := map[string]bool{}
		for range 500 {
			v := sample.Element(source.Intn, l)
			b, e := value.Encode(l, v)
			if e != api.OK {
				t.Fatalf("%v in %v: %d", v, l, e)
			}
			codes[string(b)] = true
		}
		// Of flat there are four elements, but many of most others that are not finite.
		least := 4
		if lattice.Finite(l) {
			least = min(8, len(sample.Elements(l)))
		}
		if len(codes) < least {
			t.Errorf("only %d elements of %v", len(codes), l)
		}
	}
}

// TestOverwrite checks that memory that is shared is found.
func TestOverwrite(t *testing.T) {
	a := sample.Keyed([]string{"k"}, sample.Written(sample.Entry("x", 1, 1)))
	other := sample.Clone(a)
	if !sample.Same(a, other) || !sample.Overwrite([]api.Value{a, other}) {
		t.Error("a value and its copy share memory")
	}
	for i, b := range []api.Value{{Names: a.Names}, {Parts: a.Parts}, a.Parts[0], sample.Written(api.Entry{Clock: a.Parts[0].Entries[0].Clock})} {
		if sample.Overwrite([]api.Value{a, b}) {
			t.Errorf("case %d: memory that is shared is not found", i)
		}
	}
}
