package inflation_test

import (
	"math/rand"
	"testing"

	"plexus/api"
	"plexus/eval"
	"plexus/inflation"
	"plexus/join"
	"plexus/sample"
	"plexus/types"
)

// made is a random update of an object.
type made struct {
	l api.Lattice
	m *sample.Maker
	f api.Function
}

// updates checks random updates of many objects: some are accepted by the way they are made, some are likely to be accepted, and some are any updates.
func updates(t *testing.T, seed int64, count int, do func(source *rand.Rand, c made)) {
	t.Helper()
	source := rand.New(rand.NewSource(seed))
	for range count {
		for i, l := range sample.Objects() {
			c := made{l: l, m: sample.NewMaker(source.Intn, l)}
			body := c.m.Make(sample.Of(l), sample.Sure, source.Intn(4)).Expr
			if i%4 > 0 {
				body = c.m.Covering([]int{0, 10, 30}[source.Intn(3)], 1+source.Intn(4)).Expr
			}
			c.f = api.Function{Name: "u", On: "o", Params: c.m.Params, Body: body}
			if !types.Valid(l, c.f) {
				t.Fatalf("%+v is not valid", c.f)
			}
			do(source, c)
		}
	}
}

// TestReference covers P21.1, P21.3 and P21.4 on random updates.
func TestReference(t *testing.T) {
	counts := map[bool]int{}
	blames, most := map[int]int{}, 0
	updates(t, 2, 150, func(_ *rand.Rand, c made) {
		accepted := compared(t, c.l, c.f)
		counts[accepted]++
		if accepted {
			most = max(most, len(carriers(c.f.Body, nil)))
		} else {
			blames[blamed(c.f.Body, nil).Op]++
		}
		if t.Failed() {
			t.FailNow()
		}
	})
	if counts[true] < 1500 || counts[false] < 1500 || len(blames) < 10 || most < 8 {
		t.Errorf("accepted: %v, blamed operations: %v, most carriers: %d", counts, blames, most)
	}
}

// TestMadeToCover covers P21.1 and P21.2: what is made by the rules is accepted, and so is each part of it for which they ask.
func TestMadeToCover(t *testing.T) {
	source := rand.New(rand.NewSource(3))
	ops := map[int]int{}
	for range 100 {
		for _, l := range sample.Objects() {
			m := sample.NewMaker(source.Intn, l)
			x := m.Covering(0, source.Intn(6))
			f := api.Function{Name: "u", On: "o", Params: m.Params, Body: x.Expr}
			ops[f.Body.Op]++
			if body, fault := types.Expression(l, m.Params, sample.Of(l), x.Tree); fault.Code != api.OK || text(body) != text(x.Expr) {
				t.Fatalf("%+v is not the elaboration of its tree: %v", x, fault)
			}
			if ok, e := inflation.Check(l, f); e != api.OK || !ok || !inflation.Covers(f.Body, nil) {
				t.Fatalf("%+v is accepted: %v, %d", f.Body, ok, e)
			}
		}
	}
	if len(ops) < 9 {
		t.Errorf("operations: %v", ops)
	}
}

// TestSound covers P21.5: what an accepted update makes of any state is never below it. That the others have counterexamples shows that the states and arguments are a test.
func TestSound(t *testing.T) {
	counts, changes := map[bool]int{}, 0
	updates(t, 4, 60, func(source *rand.Rand, c made) {
		accepted, _ := inflation.Check(c.l, c.f)
		lowers := false
		for range 12 {
			s := sample.Element(source.Intn, c.l)
			v, e := eval.Update(c.l, c.f, s, sample.Arguments(source.Intn, c.m.Params))
			if e != api.OK {
				t.Fatalf("%+v: %d", c.f, e)
			}
			if !join.Leq(c.l, s, v) {
				lowers = true
			}
			if accepted && lowers {
				t.Fatalf("%+v makes %+v of %+v", c.f, v, s)
			}
			if accepted && !sample.Same(s, v) {
				changes++
			}
		}
		counts[lowers]++
	})
	if counts[true] < 500 || counts[false] < 500 || changes < 1000 {
		t.Errorf("states are lowered: %v; states are changed: %d", counts, changes)
	}
}

// TestSoundFinite covers P21.5 in all states of small lattices.
func TestSoundFinite(t *testing.T) {
	source := rand.New(rand.NewSource(5))
	accepted := 0
	for _, l := range sample.Finite() {
		all := sample.Elements(l)
		for range 60 {
			m := sample.NewMaker(source.Intn, l)
			f := api.Function{Name: "u", On: "o", Params: m.Params, Body: m.Covering(20, 1+source.Intn(4)).Expr}
			if ok, _ := inflation.Check(l, f); !ok {
				continue
			}
			accepted++
			args := sample.Arguments(source.Intn, m.Params)
			for _, s := range all {
				if v, e := eval.Update(l, f, s, args); e != api.OK || !sample.Leq(l, s, v) {
					t.Fatalf("%+v makes %+v of %+v with %+v, %d", f, v, s, args, e)
				}
			}
		}
	}
	if accepted < 1000 {
		t.Errorf("%d accepted", accepted)
	}
}

// TestClosure covers P21.5: the join of an accepted body with any expression is accepted, and so is an if between two accepted ones.
func TestClosure(t *testing.T) {
	accepted := 0
	updates(t, 6, 40, func(source *rand.Rand, c made) {
		if ok, _ := inflation.Check(c.l, c.f); !ok {
			return
		}
		accepted++
		typ := sample.Of(c.l)
		other := c.m.Make(typ, sample.Sure, source.Intn(4)).Expr
		another := c.m.Covering(0, source.Intn(4)).Expr
		condition := c.m.Make(sample.Sort(api.SortBool), sample.Sure, source.Intn(3)).Expr
		for _, body := range []api.Expr{
			{Op: api.XJoin, Type: typ, Kids: []api.Expr{c.f.Body, other}}, {Op: api.XJoin, Type: typ, Kids: []api.Expr{other, c.f.Body}}, {Op: api.XIf, Type: typ, Kids: []api.Expr{condition, c.f.Body, another}}, {Op: api.XIf, Type: typ, Kids: []api.Expr{condition, another, c.f.Body}},
		} {
			f := c.f
			f.Body = body
			if !compared(t, c.l, f) {
				t.Fatalf("%+v is not accepted", body)
			}
		}
	})
	if accepted < 500 {
		t.Errorf("%d accepted", accepted)
	}
}

// TestPartsBlamed covers P21.3 and P21.4: the offsets are those of parts of the body, the carriers those of occurrences of the state.
func TestPartsBlamed(t *testing.T) {
	updates(t, 7, 20, func(_ *rand.Rand, c made) {
		states, all := map[int]bool{}, map[int]bool{}
		for _, x := range parts(c.f.Body) {
			all[x.At] = true
			states[x.At] = states[x.At] || x.Op == api.XState
		}
		if at, e := inflation.Blame(c.l, c.f); e == api.OK && !all[at] {
			t.Fatalf("%+v: %d is blamed", c.f, at)
		}
		list, _ := inflation.Carriers(c.l, c.f)
		for i, at := range list {
			if !states[at] || i > 0 && at <= list[i-1] {
				t.Fatalf("%+v: carriers %v", c.f, list)
			}
		}
	})
}
