package eval_test

import (
	"fmt"
	"strconv"
	"testing"

	"plexus/api"
	"plexus/eval"
	"plexus/names"
	"plexus/parser"
	"plexus/sample"
	"plexus/types"
	"plexus/value"
)

// text returns all fields of a result as a text. Nil and empty slices have the same text.
func text(x any) string { return fmt.Sprintf("%+v", x) }

// program returns the checked program of a source.
func program(t *testing.T, source string) api.Program {
	t.Helper()
	n, fault := parser.Parse(source)
	if fault.Code != api.OK {
		t.Fatalf("%s: %v", source, fault)
	}
	p, fault := types.Check(n)
	if fault.Code != api.OK {
		t.Fatalf("%s: %v", source, fault)
	}
	return p
}

// described returns the description of a source.
func described(t *testing.T, source string) api.Lattice {
	t.Helper()
	n, fault := parser.Lattice(source)
	if fault.Code != api.OK {
		t.Fatalf("%s: %v", source, fault)
	}
	l, fault := types.Lattice(nil, n)
	if fault.Code != api.OK {
		t.Fatalf("%s: %v", source, fault)
	}
	return l
}

// elaborated returns the elaboration of a source on an object with the lattice l.
func elaborated(t *testing.T, l api.Lattice, params []api.Param, want api.Type, source string) api.Expr {
	t.Helper()
	n, fault := parser.Expression(source)
	if fault.Code != api.OK {
		t.Fatalf("%s: %v", source, fault)
	}
	x, fault := types.Expression(l, params, want, n)
	if fault.Code != api.OK {
		t.Fatalf("%s: %v", source, fault)
	}
	return x
}

// shown returns the text of a datum, or the datum itself if it is no argument.
func shown(d api.Datum) string {
	if eval.Arguments([]api.Param{{Name: "a", Sort: d.Sort}}, []api.Datum{d}) != api.OK {
		return text(d)
	}
	switch d.Sort {
	case api.SortInt:
		return strconv.FormatInt(d.N, 10)
	case api.SortBool:
		return strconv.FormatBool(d.N == 1)
	case api.SortName:
		return d.Name
	}
	s, _ := names.Text(d.Names)
	return s
}

// result returns the text of the result of an expression, which has to be of its type.
func result(t *testing.T, x api.Expr, s api.Value, args []api.Datum) string {
	t.Helper()
	if x.Type.Sort != 0 {
		d, e := eval.Datum(x, s, args)
		if v, wrong := eval.Value(x, s, args); e != api.OK || d.Sort != x.Type.Sort || wrong != api.ErrType || text(v) != text(api.Value{}) {
			t.Errorf("%v: %d, %d, %v", x, e, wrong, v)
		}
		return shown(d)
	}
	v, e := eval.Value(x, s, args)
	if d, wrong := eval.Datum(x, s, args); e != api.OK || wrong != api.ErrType || text(d) != text(api.Datum{}) {
		t.Errorf("%v: %d, %d, %v", x, e, wrong, d)
	}
	shown, e := value.Text(x.Type.Lattice, v)
	if e != api.OK {
		t.Errorf("%v is not in canonical form", v)
	}
	return shown
}

// number returns a datum of the sort int.
func number(n int64) api.Datum { return api.Datum{Sort: api.SortInt, N: n} }

// name returns a datum of the sort name.
func name(s string) api.Datum { return api.Datum{Sort: api.SortName, Name: s} }

// set returns a datum of the sort names.
func set(list ...string) api.Datum { return api.Datum{Sort: api.SortNames, Names: list} }

// truth returns a datum of the sort bool.
func truth(is bool) api.Datum {
	if is {
		return api.Datum{Sort: api.SortBool, N: 1}
	}
	return api.Datum{Sort: api.SortBool}
}

// sorts are the four sorts.
var sorts = []int{api.SortInt, api.SortBool, api.SortName, api.SortNames}

// typeOf returns the type that a function with a result has on an object with the lattice l.
func typeOf(l api.Lattice, result int) api.Type {
	if result == 0 {
		return sample.Of(l)
	}
	return sample.Sort(result)
}
