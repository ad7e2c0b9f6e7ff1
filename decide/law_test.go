package decide_test

import (
	"math/rand"
	"testing"

	"plexus/api"
	"plexus/decide"
	"plexus/eval"
	"plexus/inflation"
	"plexus/sample"
	"plexus/variance"
)

// TestAdditive covers P22.4: an additive update is monotone.
func TestAdditive(t *testing.T) {
	source := rand.New(rand.NewSource(4))
	counts := map[[2]bool]int{}
	for _, l := range finites() {
		for range 100 {
			c := anyCall(source, l, 0)
			is := [2]bool{c.ask(t, additive).Holds, c.ask(t, monotone).Holds}
			if is[0] && !is[1] {
				t.Fatalf("%+v is additive, but not monotone", c)
			}
			counts[is]++
		}
	}
	if counts[[2]bool{true, true}] < 1000 || counts[[2]bool{false, true}] < 10 || counts[[2]bool{}] < 500 {
		t.Errorf("%v", counts)
	}
}

// joining makes a random call of an update whose body is the join of the state and an expression that does not contain it.
func joining(source *rand.Rand, l api.Lattice) call {
	m := sample.NewMaker(source.Intn, l)
	typ := sample.Of(l)
	kids := []api.Expr{{Op: api.XState, Type: typ}, {Op: api.XState}}
	for eval.Reads(kids[1]) {
		kids[1] = m.Make(typ, sample.Sure, 1+source.Intn(3)).Expr
		if x, ok := constant(l, sample.Element(source.Intn, l)); ok && source.Intn(2) == 0 {
			kids[1] = x
		}
	}
	if source.Intn(2) == 0 {
		kids[0], kids[1] = kids[1], kids[0]
	}
	body := api.Expr{Op: api.XJoin, Type: typ, Kids: kids}
	return call{l: l, f: api.Function{Name: "f", On: "o", Params: m.Params, Body: body}, args: sample.Arguments(source.Intn, m.Params)}
}

// TestJoining covers P22.4: what only joins something that does not depend on the state has all properties, and two such updates commute.
func TestJoining(t *testing.T) {
	source := rand.New(rand.NewSource(5))
	images := map[string]bool{}
	for _, l := range finites() {
		for range 25 {
			c, d := joining(source, l), joining(source, l)
			for property := range questions() {
				if a := c.ask(t, property); !a.Holds {
					t.Fatalf("%+v is not %s: %v", c, property, a)
				}
			}
			if a := commute(t, c, d); !a.Holds {
				t.Fatalf("%+v and %+v do not commute: %v", c, d, a)
			}
			image, _ := decide.Image(l, c.f, c.args)
			images[text(l)+text(image)] = true
		}
	}
	if len(images) < 3*len(finites()) {
		t.Errorf("%d different updates", len(images))
	}
}

// TestRules checks that what package inflation accepts is inflationary, and what package variance accepts is monotone.
func TestRules(t *testing.T) {
	source := rand.New(rand.NewSource(6))
	counts := map[[2]bool]int{}
	for _, l := range finites() {
		for range 100 {
			c := anyCall(source, l, 0)
			accepted, _ := inflation.Check(l, c.f)
			a := c.ask(t, inflationary)
			if accepted && !a.Holds {
				t.Fatalf("%+v is accepted, but %v", c, a)
			}
			counts[[2]bool{accepted, a.Holds}]++
			if v := variance.Of(c.f.Body); (v == variance.Constant || v == variance.Up) && !c.ask(t, monotone).Holds {
				t.Fatalf("%+v has the variance %d, but is not monotone", c, v)
			}
			c = anyCall(source, l, 1+source.Intn(4))
			if variance.Monotone(c.f) && !c.ask(t, monotone).Holds {
				t.Fatalf("%+v is accepted, but not monotone", c)
			}
		}
	}
	if counts[[2]bool{true, true}] < 500 || counts[[2]bool{false, true}] < 50 || counts[[2]bool{}] < 500 {
		t.Errorf("%v", counts)
	}
}

// TestArguments covers P22.3: an answer is one for the given arguments.
func TestArguments(t *testing.T) {
	l := described(t, "max(0, 9)")
	f := function(t, l, 0, "if b then num(number(s) + k) else s", param("b", api.SortBool), param("k", api.SortInt))
	for _, c := range []struct {
		b, k                     int64
		inflationary, idempotent bool
	}{
		{0, -1, true, true}, {0, 1, true, true}, {1, 0, true, true}, {1, 1, true, false}, {1, -1, false, false}, {1, 9, true, true}, {1, -9, false, true}, {1, api.MaxNumber, true, true}, {1, -api.MaxNumber, false, true},
	} {
		q := call{l, f, []api.Datum{truth(c.b), number(c.k)}}
		if q.ask(t, inflationary).Holds != c.inflationary || q.ask(t, idempotent).Holds != c.idempotent || !q.ask(t, monotone).Holds {
			t.Errorf("%v", c)
		}
	}
	g := function(t, l, api.SortBool, "number(s) < k or b", param("k", api.SortInt), param("b", api.SortBool))
	for _, c := range []struct {
		k, b int64
		want decide.Answer
	}{
		{3, 0, at(0, 3)}, {3, 1, yes}, {0, 0, yes}, {10, 0, yes}, {9, 0, at(0, 9)}, {1, 0, at(0, 1)},
	} {
		if a := (call{l, g, []api.Datum{number(c.k), truth(c.b)}}).ask(t, monotone); a != c.want {
			t.Errorf("%v: %v", c, a)
		}
	}
}
