package decide_test

import (
	"math/rand"
	"testing"

	"plexus/api"
	"plexus/eval"
	"plexus/sample"
	"plexus/types"
)

// constant returns an expression whose value is an element of a finite lattice, and whether there is one: of the top of a Flat with one name there is none.
func constant(l api.Lattice, v api.Value) (api.Expr, bool) {
	x := api.Expr{Type: sample.Of(l)}
	ok := true
	add := func(kid api.Expr, has bool) { x.Kids, ok = append(x.Kids, kid), ok && has }
	leaf := func(op, sort int, n int64, s string) {
		add(api.Expr{Op: op, Type: sample.Sort(sort), N: n, Text: s}, true)
	}
	switch l.Kind {
	case api.Flag:
		x.Op = api.XFlag
		leaf(api.XBool, api.SortBool, v.N, "")
	case api.Max, api.Min:
		x.Op = api.XNum
		leaf(api.XInt, api.SortInt, v.N, "")
	case api.Set, api.Closed:
		x.Op = api.XSet
		for _, s := range v.Names {
			leaf(api.XName, api.SortName, 0, s)
		}
	case api.Map:
		x.Op = api.XMap
		for i, s := range v.Names {
			leaf(api.XName, api.SortName, 0, s)
			add(constant(l.Parts[0], v.Parts[i]))
		}
	case api.Product, api.Lex:
		x.Op = map[int]int{api.Product: api.XRec, api.Lex: api.XPair}[l.Kind]
		for i, part := range v.Parts {
			add(constant(l.Parts[i], part))
		}
	case api.Flat:
		switch v.N {
		case 0:
			x.Op = api.XBottom
		case 1:
			x.Op = api.XOne
			leaf(api.XName, api.SortName, 0, v.Names[0])
		case 2:
			if len(l.Names) < 2 {
				return x, false
			}
			x.Op = api.XJoin
			add(constant(l, sample.Atom(l.Names[0])))
			add(constant(l, sample.Atom(l.Names[1])))
		}
	}
	return x, ok
}

// changed makes a random call of a function that has another result than usual in a few states: usually an update leaves the state as it is, and a query returns always the same.
func changed(source *rand.Rand, l api.Lattice, result int) call {
	m := sample.NewMaker(source.Intn, l)
	c := call{l: l, f: api.Function{Name: "f", On: "o", Params: m.Params, Result: result}, args: sample.Arguments(source.Intn, m.Params)}
	typ, truth := typeOf(l, result), sample.Sort(api.SortBool)
	state := api.Expr{Op: api.XState, Type: sample.Of(l)}
	c.f.Body = state
	if result > 0 {
		c.f.Body = m.Make(typ, sample.Sure, 0).Expr
	}
	all := sample.Elements(l)
	for range source.Intn(4) {
		here, ok := constant(l, all[source.Intn(len(all))])
		there, has := constant(l, all[source.Intn(len(all))])
		if !ok || !has {
			continue
		}
		if result > 0 {
			there = m.Make(typ, sample.Sure, 0).Expr
		}
		is := api.Expr{Op: api.XAnd, Type: truth, Kids: []api.Expr{{Op: api.XLeq, Type: truth, Kids: []api.Expr{state, here}}, {Op: api.XLeq, Type: truth, Kids: []api.Expr{here, state}}}}
		c.f.Body = api.Expr{Op: api.XIf, Type: typ, Kids: []api.Expr{is, there, c.f.Body}}
	}
	return c
}

// TestConstants checks that the constants are valid and have their values.
func TestConstants(t *testing.T) {
	for _, l := range sample.Finite() {
		missing := 0
		for _, want := range sample.Elements(l) {
			x, ok := constant(l, want)
			f := api.Function{Name: "f", On: "o", Body: x}
			if !ok {
				missing++
				continue
			}
			if v, e := eval.Value(x, api.Value{}, nil); !types.Valid(l, f) || e != api.OK || !sample.Same(v, want) {
				t.Errorf("%+v has the value %+v, not %+v, %d", x, v, want, e)
			}
		}
		if missing > len(sample.Elements(l))*3/4 {
			t.Errorf("%v: %d elements have no constant", l, missing)
		}
	}
}
