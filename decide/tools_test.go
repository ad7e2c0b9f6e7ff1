package decide_test

import (
	"fmt"
	"math/rand"
	"slices"
	"testing"

	"plexus/api"
	"plexus/decide"
	"plexus/lattice"
	"plexus/parser"
	"plexus/sample"
	"plexus/types"
)

// text returns all fields of a value as a text. Nil and empty slices have the same text.
func text(x any) string { return fmt.Sprintf("%+v", x) }

// described returns the description of a source.
func described(t *testing.T, source string) api.Lattice {
	t.Helper()
	n, fault := parser.Lattice(source)
	if fault.Code != api.OK {
		t.Fatalf("%s: %v", source, fault)
	}
	l, fault := types.Lattice(nil, n)
	if fault.Code != api.OK {
		t.Fatalf("%s: %v", source, fault)
	}
	return l
}

// function returns the update (result 0) or the query of an object with the lattice l whose body has a source.
func function(t *testing.T, l api.Lattice, result int, source string, params ...api.Param) api.Function {
	t.Helper()
	n, fault := parser.Expression(source)
	if fault.Code != api.OK {
		t.Fatalf("%s: %v", source, fault)
	}
	x, fault := types.Expression(l, params, typeOf(l, result), n)
	if fault.Code != api.OK {
		t.Fatalf("%s: %v", source, fault)
	}
	return api.Function{Name: "f", On: "o", Params: params, Result: result, Body: x}
}

// typeOf returns the type that a function with a result has on an object with the lattice l.
func typeOf(l api.Lattice, result int) api.Type {
	if result == 0 {
		return sample.Of(l)
	}
	return sample.Sort(result)
}

// param returns a parameter.
func param(name string, sort int) api.Param { return api.Param{Name: name, Sort: sort} }

// number returns a datum of the sort int.
func number(n int64) api.Datum { return api.Datum{Sort: api.SortInt, N: n} }

// truth returns a datum of the sort bool.
func truth(n int64) api.Datum { return api.Datum{Sort: api.SortBool, N: n} }

// name returns a datum of the sort name.
func name(s string) api.Datum { return api.Datum{Sort: api.SortName, Name: s} }

// set returns a datum of the sort names.
func set(list ...string) api.Datum { return api.Datum{Sort: api.SortNames, Names: list} }

// call is a function of an object with the lattice l, with arguments for it.
type call struct {
	l    api.Lattice
	f    api.Function
	args []api.Datum
}

// anyCall makes a random call. Some of the updates are inflationary by the way they are made.
func anyCall(source *rand.Rand, l api.Lattice, result int) call {
	if source.Intn(2) == 0 {
		return changed(source, l, result)
	}
	m := sample.NewMaker(source.Intn, l)
	c := call{l: l, f: api.Function{Name: "f", On: "o", Params: m.Params, Result: result}, args: sample.Arguments(source.Intn, m.Params)}
	if result == 0 && source.Intn(2) == 0 {
		c.f.Body = m.Covering(12, 1+source.Intn(3)).Expr
	} else {
		c.f.Body = m.Make(typeOf(l, result), sample.Sure, source.Intn(4)).Expr
	}
	return c
}

// question is a function of the package that decides about one call.
type question func(l api.Lattice, f api.Function, args []api.Datum) (decide.Answer, api.Errno)

// Names of the properties.
const (
	inflationary = "inflationary"
	monotone     = "monotone"
	additive     = "additive"
	idempotent   = "idempotent"
)

// questions are these functions.
func questions() map[string]question {
	return map[string]question{inflationary: decide.Inflationary, monotone: decide.Monotone, additive: decide.Additive, idempotent: decide.Idempotent}
}

// ask returns the answer to a question, which must be one.
func (c call) ask(t *testing.T, property string) decide.Answer {
	t.Helper()
	a, e := questions()[property](c.l, c.f, c.args)
	if e != api.OK || a.Holds && (a.I != 0 || a.J != 0) {
		t.Fatalf("%s, %+v: %v, %d", property, c, a, e)
	}
	return a
}

// commute returns the answer whether two calls commute.
func commute(t *testing.T, c, d call) decide.Answer {
	t.Helper()
	a, e := decide.Commute(c.l, c.f, c.args, d.f, d.args)
	if e != api.OK || a.Holds && a.I != 0 || a.J != 0 {
		t.Fatalf("%+v, %+v: %v, %d", c, d, a, e)
	}
	return a
}

// finites returns descriptions with few elements, of all kinds that can have few.
func finites() []api.Lattice {
	return slices.DeleteFunc(append(sample.Finite(), sample.Nested()...), func(l api.Lattice) bool { return !lattice.Finite(l) })
}
