package decide_test

import (
	"slices"
	"testing"

	"plexus/api"
	"plexus/decide"
)

var yes = decide.Answer{Holds: true}

// at returns the answer no, with a counterexample.
func at(i, j int) decide.Answer { return decide.Answer{I: i, J: j} }

// TestUpdates covers P22.2 and P22.3 for updates from sources, the chapter's examples 1 and 2 among them.
func TestUpdates(t *testing.T) {
	for _, c := range []struct {
		lattice, body                                string
		image                                        []int
		inflationary, monotone, additive, idempotent decide.Answer
	}{
		{"max(0, 3)", "num(number(s) + 1)", []int{1, 2, 3, 3}, yes, yes, yes, at(0, 0)},
		{"max(0, 3)", "num(3 - number(s))", []int{3, 2, 1, 0}, at(2, 0), at(0, 1), at(0, 1), at(0, 0)},
		{"max(0, 3)", "s", []int{0, 1, 2, 3}, yes, yes, yes, yes},
		{"max(0, 3)", "bottom", []int{0, 0, 0, 0}, at(1, 0), yes, yes, yes},
		{"max(0, 3)", "num(2)", []int{2, 2, 2, 2}, at(3, 0), yes, yes, yes},
		{"max(0, 3)", "if number(s) == 1 then num(2) else if number(s) == 2 then num(1) else s", []int{0, 2, 1, 3}, at(2, 0), at(1, 2), at(1, 2), at(1, 0)},
		{"max(0, 3)", "if number(s) == 3 then bottom else s", []int{0, 1, 2, 0}, at(3, 0), at(1, 3), at(1, 3), yes},
		{"max(0, 3)", "if number(s) == 3 then num(2) else if number(s) == 2 then num(3) else num(number(s))", []int{0, 1, 3, 2}, at(3, 0), at(2, 3), at(2, 3), at(2, 0)},
		// The greater number is less: the bottom has the index 3.
		{"min(0, 3)", "num(number(s) + 1)", []int{1, 2, 3, 3}, at(0, 0), yes, yes, at(0, 0)},
		{"min(0, 3)", "num(number(s) - 1)", []int{0, 0, 1, 2}, yes, yes, yes, at(2, 0)},
		{"min(0, 3)", "num(3 - number(s))", []int{3, 2, 1, 0}, at(0, 0), at(1, 0), at(0, 1), at(0, 0)},
		// {} is 0, {a} is 1, {a,b} is 2, {b} is 3.
		{"set('a', 'b')", "if 1 < size(s) then s else bottom", []int{0, 0, 2, 0}, at(1, 0), yes, at(1, 3), yes},
		{"set('a', 'b')", "if size(s) == 1 then bottom else set('a', 'b')", []int{2, 0, 2, 0}, at(1, 0), at(0, 1), at(0, 1), at(1, 0)},
		{"set('a', 'b')", "if 'a' in keys(s) then set('b') else bottom", []int{0, 3, 3, 0}, at(1, 0), yes, yes, at(1, 0)},
		{"set('a', 'b')", "if s leq set('b') then s else set('a')", []int{0, 1, 1, 3}, at(2, 0), at(3, 2), at(1, 3), yes},
		// ? is 0, a is 1, b is 2, ! is 3.
		{"flat('a', 'b')", "if conflict(s) then one('a') else s", []int{0, 1, 2, 1}, at(3, 0), at(2, 3), at(1, 2), yes},
		{"flat('a', 'b')", "s join one('b')", []int{2, 3, 2, 3}, yes, yes, yes, yes},
		{"flag", "flag(not on(s))", []int{1, 0}, at(1, 0), at(0, 1), at(0, 1), at(0, 0)},
		{"max(7, 7)", "num(0)", []int{0}, yes, yes, yes, yes},
	} {
		l := described(t, c.lattice)
		q := call{l: l, f: function(t, l, 0, c.body)}
		if image, e := decide.Image(l, q.f, nil); e != api.OK || !slices.Equal(image, c.image) {
			t.Errorf("%s on %s: %v, %d", c.body, c.lattice, image, e)
		}
		for property, want := range map[string]decide.Answer{inflationary: c.inflationary, monotone: c.monotone, additive: c.additive, idempotent: c.idempotent} {
			if a := q.ask(t, property); a != want {
				t.Errorf("%s on %s: %s: %v, not %v", c.body, c.lattice, property, a, want)
			}
		}
	}
}

// TestQueries covers P22.2 and P22.3 for queries of all sorts, the chapter's example 3 among them.
func TestQueries(t *testing.T) {
	for _, c := range []struct {
		lattice string
		result  int
		body    string
		want    []api.Datum
		answer  decide.Answer
	}{
		{"max(0, 3)", api.SortBool, "number(s) <= 1", []api.Datum{truth(1), truth(1), truth(0), truth(0)}, at(0, 2)},
		{"max(0, 3)", api.SortBool, "1 <= number(s)", []api.Datum{truth(0), truth(1), truth(1), truth(1)}, yes},
		{"max(0, 3)", api.SortInt, "number(s) - 2", []api.Datum{number(-2), number(-1), number(0), number(1)}, yes},
		{"max(0, 3)", api.SortInt, "if number(s) == 2 then 0 else 1", []api.Datum{number(1), number(1), number(0), number(1)}, at(0, 2)},
		{"max(0, 3)", api.SortName, "if number(s) <= 2 then 'a' else 'b'", []api.Datum{name("a"), name("a"), name("a"), name("b")}, at(0, 3)},
		{"max(0, 3)", api.SortName, "'a'", []api.Datum{name("a"), name("a"), name("a"), name("a")}, yes},
		{"min(0, 2)", api.SortInt, "number(s)", []api.Datum{number(0), number(1), number(2)}, at(1, 0)},
		{"min(0, 2)", api.SortInt, "0 - number(s)", []api.Datum{number(0), number(-1), number(-2)}, yes},
		{"set('a', 'b')", api.SortNames, "keys(s)", []api.Datum{set(), set("a"), set("a", "b"), set("b")}, yes},
		{"set('a', 'b')", api.SortNames, "if size(s) <= 1 then keys(s) else values(write(bottom, 1, 'b'))", []api.Datum{set(), set("a"), set("b"), set("b")}, at(1, 2)},
		{"flat('a', 'b')", api.SortNames, "values(s)", []api.Datum{set(), set("a"), set("b"), set()}, at(1, 3)},
	} {
		l := described(t, c.lattice)
		q := call{l: l, f: function(t, l, c.result, c.body)}
		if list, e := decide.Results(l, q.f, nil); e != api.OK || text(list) != text(c.want) {
			t.Errorf("%s on %s: %v, %d", c.body, c.lattice, list, e)
		}
		if a := q.ask(t, monotone); a != c.answer {
			t.Errorf("%s on %s: %v, not %v", c.body, c.lattice, a, c.answer)
		}
	}
}

// TestCommute covers P22.3 for Commute, with the chapter's example 4.
func TestCommute(t *testing.T) {
	for _, c := range []struct {
		lattice, f, g string
		want          decide.Answer
	}{
		{"max(0, 3)", "num(number(s) + 1)", "num(2)", at(0, 0)}, {"max(0, 3)", "num(number(s) + 1)", "num(number(s) + 2)", yes}, {"max(0, 3)", "num(number(s) + 1)", "num(3)", yes}, {"max(0, 3)", "num(number(s) + 1)", "if number(s) <= 1 then s else num(3)", at(1, 0)},
		{"max(0, 3)", "num(number(s) + 1)", "if number(s) == 3 then num(2) else s", at(2, 0)}, {"max(0, 3)", "if number(s) == 3 then num(2) else s", "if number(s) == 3 then num(1) else s", at(3, 0)}, {"max(0, 3)", "s", "num(3 - number(s))", yes}, {"max(0, 3)", "s join num(1)", "s join num(2)", yes},
		{"set('a', 'b')", "s join set('a')", "if 'a' in keys(s) then bottom else s", at(0, 0)}, {"set('a', 'b')", "set(keys(s), 'a')", "set(keys(s), 'b')", yes},
	} {
		l := described(t, c.lattice)
		f, g := call{l: l, f: function(t, l, 0, c.f)}, call{l: l, f: function(t, l, 0, c.g)}
		if a, b := commute(t, f, g), commute(t, g, f); a != c.want || b != c.want {
			t.Errorf("%s and %s: %v, %v", c.f, c.g, a, b)
		}
	}
	// The two functions can be the same, and have different names, objects and parameters.
	l := described(t, "max(0, 9)")
	f := function(t, l, 0, "s join num(k)", param("k", api.SortInt))
	g := function(t, l, 0, "if b then num(number(s) + k) else s", param("b", api.SortBool), param("k", api.SortInt))
	g.Name, g.On = "g", "p"
	for _, c := range []struct {
		k, b, n int64
		want    decide.Answer
	}{
		{3, 0, 5, yes}, {0, 1, 5, yes}, {3, 1, 2, at(0, 0)}, {9, 1, 5, yes}, {1, 1, 9, yes}, {1, 1, 8, at(0, 0)},
	} {
		if a, e := decide.Commute(l, f, []api.Datum{number(c.k)}, g, []api.Datum{truth(c.b), number(c.n)}); e != api.OK || a != c.want {
			t.Errorf("%v: %v, %d", c, a, e)
		}
	}
}
