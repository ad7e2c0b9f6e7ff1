package inflation_test

import (
	"fmt"
	"slices"
	"testing"

	"plexus/api"
	"plexus/inflation"
	"plexus/parser"
	"plexus/types"
)

// text returns all fields of a value as a text. Nil and empty slices have the same text.
func text(x any) string { return fmt.Sprintf("%+v", x) }

// params are the parameters of the rows.
func params() []api.Param {
	return []api.Param{{Name: "i", Sort: api.SortInt}, {Name: "b", Sort: api.SortBool}, {Name: "x", Sort: api.SortName}, {Name: "l", Sort: api.SortNames}}
}

// described returns the description of a source.
func described(t *testing.T, source string) api.Lattice {
	t.Helper()
	n, fault := parser.Lattice(source)
	if fault.Code != api.OK {
		t.Fatalf("%s: %v", source, fault)
	}
	l, fault := types.Lattice(nil, n)
	if fault.Code != api.OK {
		t.Fatalf("%s: %v", source, fault)
	}
	return l
}

// update returns the update of an object with the lattice l whose body has a source.
func update(t *testing.T, l api.Lattice, source string) api.Function {
	t.Helper()
	n, fault := parser.Expression(source)
	if fault.Code != api.OK {
		t.Fatalf("%s: %v", source, fault)
	}
	x, fault := types.Expression(l, params(), api.Type{Lattice: l}, n)
	if fault.Code != api.OK {
		t.Fatalf("%s: %v", source, fault)
	}
	return api.Function{Name: "u", On: "o", Params: params(), Body: x}
}

// parts returns all parts of an expression, itself among them.
func parts(x api.Expr) []api.Expr {
	list := []api.Expr{x}
	for _, kid := range x.Kids {
		list = append(list, parts(kid)...)
	}
	return list
}

// answers checks the four functions on a valid update, of which is known whether it is accepted, and the offset of the expression to blame or the carriers.
func answers(t *testing.T, l api.Lattice, f api.Function, accepted bool, blame int, list []int) {
	t.Helper()
	if ok, e := inflation.Check(l, f); e != api.OK || ok != accepted || inflation.Covers(f.Body, nil) != accepted {
		t.Errorf("%+v is accepted: %v, %d", f.Body, ok, e)
	}
	at, blameError := inflation.Blame(l, f)
	found, carryError := inflation.Carriers(l, f)
	if accepted && (blameError != api.ErrNone || at != 0 || carryError != api.OK || !slices.Equal(found, list)) {
		t.Errorf("%+v: %d is blamed, %d; carriers %v, not %v, %d", f.Body, at, blameError, found, list, carryError)
	}
	if !accepted && (blameError != api.OK || at != blame || carryError != api.ErrOrder || len(found) > 0) {
		t.Errorf("%+v: %d is blamed, not %d, %d; carriers %v, %d", f.Body, at, blame, blameError, found, carryError)
	}
}

// compared does the same by the reference, and reports whether the update is accepted.
func compared(t *testing.T, l api.Lattice, f api.Function) bool {
	t.Helper()
	accepted, blame, list := covers(f.Body, nil), 0, []int(nil)
	if accepted {
		list = carriers(f.Body, nil)
	} else {
		blame = blamed(f.Body, nil).At
	}
	before := text(f)
	answers(t, l, f, accepted, blame, list)
	if text(f) != before {
		t.Errorf("%s has changed", before)
	}
	return accepted
}
