package variance_test

import (
	"fmt"
	"math"
	"math/rand"
	"testing"

	"plexus/api"
	"plexus/sample"
	"plexus/variance"
)

// text returns all fields of a value as a text.
func text(x any) string { return fmt.Sprintf("%+v", x) }

// TestFlip covers P20.1 for Flip.
func TestFlip(t *testing.T) {
	for v, want := range map[int]int{variance.Constant: variance.Constant, variance.Up: variance.Down, variance.Down: variance.Up, variance.None: variance.None, 4: variance.None, -1: variance.None, 7: variance.None, math.MaxInt: variance.None, math.MinInt: variance.None} {
		if got := variance.Flip(v); got != want {
			t.Errorf("Flip of %d is %d, not %d", v, got, want)
		}
	}
}

// TestBoth covers P20.1 for Both.
func TestBoth(t *testing.T) {
	const c, u, d, n = variance.Constant, variance.Up, variance.Down, variance.None
	if c != 0 || u != 1 || d != 2 || n != 3 {
		t.Error("the numbers of the variances")
	}
	want := [4][4]int{{c, u, d, n}, {u, u, n, n}, {d, n, d, n}, {n, n, n, n}}
	known := func(v int) int {
		if v < 0 || v > 3 {
			return n
		}
		return v
	}
	all := []int{c, u, d, n, 4, -1, 7, math.MaxInt, math.MinInt}
	for _, a := range all {
		for _, b := range all {
			if got := variance.Both(a, b); got != want[known(a)][known(b)] {
				t.Errorf("Both of %d and %d is %d", a, b, got)
			}
		}
	}
}

// check compares all functions with the reference.
func check(t *testing.T, x api.Expr) int {
	t.Helper()
	got := variance.Of(x)
	if want := of(x); got != want {
		t.Fatalf("%+v has the variance %d, not %d", x, got, want)
	}
	blame := -1
	if got != variance.Constant && got != variance.Up {
		blame = blamed(x, variance.Up).At
	}
	for _, result := range []int{0, 1, api.SortNames, 5, -1} {
		f := api.Function{Name: "q", On: "o", Result: result, Body: x}
		accepted, at := result != 0 && (got == variance.Constant || got == variance.Up), blame
		if result == 0 {
			at = -1
		}
		if variance.Monotone(f) != accepted || variance.Blame(f) != at {
			t.Fatalf("%+v with the result %d is accepted: %v; %d is blamed, not %d", x, result, variance.Monotone(f), variance.Blame(f), at)
		}
	}
	return got
}

// checkKept does the same, and checks that the expression is not changed.
func checkKept(t *testing.T, x api.Expr) int {
	t.Helper()
	before := text(x)
	got := check(t, x)
	if text(x) != before {
		t.Fatalf("%s has changed", before)
	}
	return got
}

// kids returns expressions of all variances, with their offsets. The types have no influence on their variances.
func kids(types []api.Type) []api.Expr {
	state := api.Expr{Op: api.XState, At: 11}
	var list []api.Expr
	for _, t := range types {
		for _, x := range []api.Expr{{Op: api.XInt, N: 1, At: 12}, {Op: api.XInt, N: 2, At: 21}, {Op: api.XBool, N: 1, At: 13}, {Op: api.XBottom, At: 14}, {Op: api.XState, At: 15}, {Op: api.XNot, At: 16, Kids: []api.Expr{state}}, {Op: api.XOne, At: 17, Kids: []api.Expr{state}}, {Op: api.XParam, N: 1, At: 18, Kids: []api.Expr{state}}} {
			x.Type = t
			list = append(list, x)
		}
	}
	return list
}

// TestAllForms covers P20.2 and P20.3: all operations, and numbers that are none, with up to three kids of all variances; the types decide nothing.
func TestAllForms(t *testing.T) {
	all := sample.Lists(kids([]api.Type{{}}), 3)
	for op := -1; op <= api.XConflict+2; op++ {
		counts := [4]int{}
		for _, list := range all {
			counts[check(t, api.Expr{Op: op, At: 99, Kids: list})]++
		}
		if counts[variance.None] == 0 {
			t.Errorf("the operation %d: %v", op, counts)
		}
	}
	for _, op := range []int{math.MaxInt, math.MinInt, 1 << 32, 1<<32 + api.XState, 100} {
		check(t, api.Expr{Op: op})
	}
}

// allTypes returns types of all sorts, and of lattices of all kinds.
func allTypes() []api.Type {
	flag := api.Lattice{Kind: api.Flag}
	var list []api.Type
	for sort := -1; sort <= 5; sort++ {
		list = append(list, sample.Sort(sort))
	}
	for kind := -1; kind <= 11; kind++ {
		list = append(list, sample.Of(api.Lattice{Kind: kind}))
	}
	for _, bounds := range [][2]int64{{0, 5}, {1, 5}, {-1, 5}, {-5, -1}, {-5, 0}, {0, 0}, {-5, 1}} {
		list = append(list, sample.Of(sample.MapOf(sample.Bounds(api.Max, bounds[0], bounds[1]))), sample.Of(sample.MapOf(sample.Bounds(api.Min, bounds[0], bounds[1]), "a")))
	}
	number := sample.Bounds(api.Max, 0, 5)
	for _, l := range []api.Lattice{sample.MapOf(flag), sample.MapOf(sample.MapOf(number)), {Kind: api.Map, Parts: []api.Lattice{number, number}}, {Kind: api.Set, Parts: []api.Lattice{number}}, {Kind: api.Lex, Parts: []api.Lattice{number}}, sample.Product(number), sample.Lex(number, number)} {
		list = append(list, sample.Of(l))
	}
	return list
}

// TestAllTypes covers P20.2 and P20.3: operations of some types on one kid of any type, or on two names or sets of names.
func TestAllTypes(t *testing.T) {
	some := []api.Type{{}, sample.Sort(api.SortInt), sample.Of(sample.Bounds(api.Max, 0, 5)), sample.Of(sample.Bounds(api.Min, 0, 5))}
	for op := api.XInt; op <= api.XConflict; op++ {
		for _, typ := range allTypes() {
			for _, kid := range kids([]api.Type{typ}) {
				for _, of := range append(some, typ) {
					check(t, api.Expr{Op: op, At: 99, Type: of, Kids: []api.Expr{kid}})
				}
			}
		}
	}
	for _, op := range []int{api.XSet, api.XMap, api.XRec, api.XAt, api.XIn} {
		for _, list := range sample.Lists(kids([]api.Type{sample.Sort(api.SortName), sample.Sort(api.SortNames)}), 2) {
			check(t, api.Expr{Op: op, At: 99, Kids: list})
		}
	}
}

// TestBelow covers P20.2 and P20.3 for XIf: branches of all forms under conditions of all variances.
func TestBelow(t *testing.T) {
	branches := []api.Expr{{Op: api.XName, N: 1, Text: "a", At: 30}, {Op: api.XParam, N: 1, At: 31}, {Op: api.XBottom, At: 32}, {Op: api.XBottom, At: 33, Kids: []api.Expr{{Op: api.XState, At: 40}}}, {Op: api.XState, At: 34}, {Op: api.XNot, At: 35, Kids: []api.Expr{{Op: api.XState, At: 36}}}}
	for _, n := range []int64{0, 1, 2, -1, math.MaxInt64, math.MinInt64} {
		branches = append(branches, api.Expr{Op: api.XInt, N: n, At: 37}, api.Expr{Op: api.XBool, N: n, At: 38}, api.Expr{Op: api.XInt, N: n, At: 39, Kids: []api.Expr{{}}})
	}
	counts := [4]int{}
	for _, condition := range kids([]api.Type{{}}) {
		for _, a := range branches {
			for _, b := range branches {
				counts[check(t, api.Expr{Op: api.XIf, At: 99, Kids: []api.Expr{condition, a, b}})]++
			}
		}
	}
	for v, n := range counts {
		if n < 20 {
			t.Errorf("the variance %d occurs %d times", v, n)
		}
	}
}

// shaped returns a random expression, most parts of which have their form, with types by chance.
func shaped(source *rand.Rand, depth int) api.Expr {
	x := api.Expr{Op: 1 + source.Intn(api.XConflict), N: int64(source.Intn(4)), At: source.Intn(1000)}
	all := allTypes()
	x.Type = all[source.Intn(len(all))]
	if depth <= 0 || source.Intn(6) == 0 {
		x.Op = []int{api.XInt, api.XBool, api.XName, api.XParam, api.XState, api.XState, api.XState, api.XBottom}[source.Intn(8)]
	}
	count := source.Intn(5)
	for _, r := range table() {
		if r.op == x.Op && r.kids >= 0 && source.Intn(40) > 0 {
			count = r.kids
		}
	}
	for range count {
		x.Kids = append(x.Kids, shaped(source, depth-1))
	}
	return x
}

// TestShaped covers P20.2 and P20.3 on random expressions.
func TestShaped(t *testing.T) {
	source := rand.New(rand.NewSource(1))
	counts := [4]int{}
	for range 20000 {
		counts[checkKept(t, shaped(source, source.Intn(5)))]++
	}
	for range 5000 {
		checkKept(t, sample.AnyExpr(source.Intn, 3))
	}
	for v, n := range counts {
		if n < 200 {
			t.Errorf("the variance %d occurs %d times", v, n)
		}
	}
}

// TestMade covers P20.2 and P20.3 on random elaborations and their parts.
func TestMade(t *testing.T) {
	source := rand.New(rand.NewSource(2))
	counts := [4]int{}
	for range 60 {
		for _, l := range sample.Objects() {
			m := sample.NewMaker(source.Intn, l)
			want := []api.Type{sample.Of(l), sample.Sort(1), sample.Sort(2), sample.Sort(3), sample.Sort(4)}[source.Intn(5)]
			for _, x := range parts(m.Make(want, sample.Sure, source.Intn(5)).Expr) {
				counts[checkKept(t, x)]++
			}
		}
	}
	for v, n := range counts {
		if n < 100 {
			t.Errorf("the variance %d occurs %d times", v, n)
		}
	}
}

// parts returns all parts of an expression, itself among them.
func parts(x api.Expr) []api.Expr {
	list := []api.Expr{x}
	for _, kid := range x.Kids {
		list = append(list, parts(kid)...)
	}
	return list
}

// TestDeep covers P1: expressions with as many levels as the document allows, where each level is judged once.
func TestDeep(t *testing.T) {
	state, one := api.Expr{Op: api.XState, At: 1}, api.Expr{Op: api.XInt, At: 2}
	not, minus, choice, write := state, state, state, state
	const levels = 65000
	for range levels {
		not = api.Expr{Op: api.XNot, At: 3, Kids: []api.Expr{not}}
		minus = api.Expr{Op: api.XMinus, At: 4, Kids: []api.Expr{one, minus}}
		choice = api.Expr{Op: api.XIf, At: 5, Kids: []api.Expr{choice, one, one}}
		write = api.Expr{Op: api.XWrite, At: 6, Kids: []api.Expr{write, one, one}}
	}
	for i, x := range []api.Expr{not, minus, choice, write} {
		for down := range 2 {
			want := variance.Up + down
			if got := variance.Of(x); got != want {
				t.Errorf("case %d: %d, not %d", i, got, want)
			}
			f := api.Function{Result: 1, Body: x}
			if at := variance.Blame(f); variance.Monotone(f) != (down == 0) || at != []int{-1, 1}[down] {
				t.Errorf("case %d: %d is blamed", i, at)
			}
			x = api.Expr{Op: api.XNot, At: 7, Kids: []api.Expr{x}}
		}
	}
}
