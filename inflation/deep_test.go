package inflation_test

import (
	"slices"
	"testing"

	"plexus/api"
	"plexus/inflation"
	"plexus/sample"
)

// levels is nearly the number of levels that the document allows.
const levels = 60000

// node returns an expression with the offset 7.
func node(op int, t api.Type, kids ...api.Expr) api.Expr {
	return api.Expr{Op: op, Type: t, Kids: kids, At: 7}
}

// nested returns an expression with something put around it many times.
func nested(x api.Expr, around func(x api.Expr) api.Expr) api.Expr {
	for range levels {
		x = around(x)
	}
	return x
}

// TestDeep covers P1 for valid updates: each level is judged once.
func TestDeep(t *testing.T) {
	set, number, flag := sample.Of(api.Lattice{Kind: api.Set}), sample.Of(sample.Bounds(api.Max, 0, 9)), sample.Of(api.Lattice{Kind: api.Flag})
	integer, truth := sample.Sort(api.SortInt), sample.Sort(api.SortBool)
	leaf := func(op int, t api.Type) api.Expr { return api.Expr{Op: op, Type: t, At: 5} }
	bottom, yes, no, one := node(api.XBottom, set), node(api.XBool, truth), node(api.XBool, truth), node(api.XInt, integer)
	yes.N = 1
	for i, c := range []struct {
		last  api.Expr
		outer func(x api.Expr) api.Expr
		depth func(x api.Expr) api.Expr
		blame int
	}{
		{leaf(api.XState, set), nil, func(x api.Expr) api.Expr { return node(api.XJoin, set, x, bottom) }, -1},
		{leaf(api.XState, set), nil, func(x api.Expr) api.Expr { return node(api.XJoin, set, bottom, x) }, -1},
		{leaf(api.XBottom, set), nil, func(x api.Expr) api.Expr { return node(api.XJoin, set, x, bottom) }, 7},
		{leaf(api.XState, set), nil, func(x api.Expr) api.Expr { return node(api.XIf, set, yes, x, leaf(api.XState, set)) }, -1},
		{leaf(api.XState, set), nil, func(x api.Expr) api.Expr { return node(api.XIf, set, yes, leaf(api.XState, set), x) }, -1},
		{leaf(api.XBottom, set), nil, func(x api.Expr) api.Expr { return node(api.XIf, set, yes, x, bottom) }, 5},
		{leaf(api.XBottom, set), nil, func(x api.Expr) api.Expr { return node(api.XIf, set, yes, leaf(api.XState, set), x) }, 5},
		{node(api.XNumber, integer, leaf(api.XState, number)), func(x api.Expr) api.Expr { return node(api.XNum, number, x) }, func(x api.Expr) api.Expr { return node(api.XPlus, integer, x, one) }, -1},
		{one, func(x api.Expr) api.Expr { return node(api.XNum, number, x) }, func(x api.Expr) api.Expr { return node(api.XPlus, integer, one, x) }, 7},
		{node(api.XOn, truth, leaf(api.XState, flag)), func(x api.Expr) api.Expr { return node(api.XFlag, flag, x) }, func(x api.Expr) api.Expr { return node(api.XAnd, truth, yes, x) }, -1},
		{node(api.XOn, truth, leaf(api.XState, flag)), func(x api.Expr) api.Expr { return node(api.XFlag, flag, x) }, func(x api.Expr) api.Expr { return node(api.XOr, truth, no, x) }, -1},
	} {
		body := nested(c.last, c.depth)
		if c.outer != nil {
			body = c.outer(body)
		}
		answers(t, body.Type.Lattice, api.Function{Name: "u", On: "o", Body: body}, c.blame < 0, c.blame, []int{5})
		if t.Failed() {
			t.Fatalf("case %d", i)
		}
	}
}

// TestDeepExpressions covers P1 for expressions and paths that are not those of valid functions.
func TestDeepExpressions(t *testing.T) {
	set := sample.Of(api.Lattice{Kind: api.Set})
	deep := nested(node(api.XState, set), func(x api.Expr) api.Expr {
		return node(api.XSet, set, node(api.XKeys, api.Type{}), node(api.XKeys, api.Type{}, x))
	})
	if !inflation.Covers(deep, nil) || inflation.Covers(deep, []int{0}) {
		t.Error("sets")
	}
	path := slices.Repeat([]int{0, 1, -1}, levels/3)
	if x := chain(path); !inflation.Covers(x, path) || inflation.Covers(x, path[1:]) || inflation.Covers(x, append([]int{0}, path...)) || !inflation.Covers(selection(-2, x), append(path, -2)) {
		t.Error("selections")
	}
	records := nested(state, func(x api.Expr) api.Expr { return node(api.XRec, api.Type{}, selection(0, x)) })
	pairs := nested(state, func(x api.Expr) api.Expr {
		return node(api.XPair, api.Type{}, selection(-1, x), selection(-2, state))
	})
	if !inflation.Covers(records, nil) || !inflation.Covers(pairs, nil) || inflation.Covers(records, []int{1}) {
		t.Error("products and pairs")
	}
	wide := api.Expr{Op: api.XRec}
	for i := range 100000 {
		wide.Kids = append(wide.Kids, selection(i, state))
	}
	if !inflation.Covers(wide, nil) || inflation.Covers(wide, []int{0}) {
		t.Error("many fields")
	}
}
