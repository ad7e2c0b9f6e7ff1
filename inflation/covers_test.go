package inflation_test

import (
	"math"
	"math/rand"
	"slices"
	"testing"

	"plexus/api"
	"plexus/inflation"
	"plexus/sample"
)

// somePaths returns all paths of up to n steps from a few.
func somePaths(n int) [][]int { return sample.Lists([]int{0, 1, -1, -2, -3}, n) }

// check compares Covers with the reference, and reports whether the path is covered.
func check(t *testing.T, x api.Expr, p []int) bool {
	t.Helper()
	got := inflation.Covers(x, p)
	if got != covers(x, p) {
		t.Fatalf("%+v covers %v: %v", x, p, got)
	}
	return got
}

// selection returns a selection from an expression: of a field, or for -1 and -2 of a part of a pair.
func selection(step int, x api.Expr) api.Expr {
	switch step {
	case -1:
		return api.Expr{Op: api.XFirst, Kids: []api.Expr{x}}
	case -2:
		return api.Expr{Op: api.XSecond, Kids: []api.Expr{x}}
	}
	return api.Expr{Op: api.XField, N: int64(step), Kids: []api.Expr{x}}
}

// state is the state.
var state = api.Expr{Op: api.XState}

// TestPaths covers P21.2 for expressions that are paths: each covers that path alone. A field with a negative number is no path.
func TestPaths(t *testing.T) {
	all := somePaths(4)
	for _, p := range all {
		x := state
		for _, step := range p {
			x = selection(step, x)
		}
		for _, q := range all {
			want := slices.Equal(p, q) && !slices.Contains(p, -3)
			if check(t, x, q) != want {
				t.Fatalf("%v covers %v: %v", p, q, !want)
			}
		}
	}
	for _, n := range []int{2, 1 << 40, math.MaxInt, math.MinInt, -1, -2} {
		x := api.Expr{Op: api.XField, N: int64(n), Kids: []api.Expr{state}}
		if check(t, x, []int{n}) != (n >= 0) || check(t, x, []int{n ^ 1<<32}) || check(t, x, nil) || check(t, x, []int{0, n}) || check(t, x, []int{n, 0}) {
			t.Errorf("the field %d", n)
		}
	}
}

// joined returns the join of an expression with the bottom. It covers what the expression covers, but is no path.
func joined(x api.Expr) api.Expr {
	return api.Expr{Op: api.XJoin, Type: x.Type, Kids: []api.Expr{{Op: api.XBottom}, x}}
}

// TestSelections covers P21.2 for parts of expressions that are not the state: fields and first parts, but not second parts.
func TestSelections(t *testing.T) {
	for _, p := range somePaths(4) {
		x := joined(state)
		for _, step := range p {
			x = selection(step, x)
		}
		want := !slices.Contains(p, -2) && !slices.Contains(p, -3)
		if check(t, x, p) != want {
			t.Fatalf("%v: %v", p, !want)
		}
	}
}

// pool returns expressions of the sorts of operands that the rules ask for, with a type.
func pool(typ api.Type) []api.Expr {
	number := api.Expr{Op: api.XNumber, Kids: []api.Expr{{Op: api.XState, Type: typ}}}
	on := api.Expr{Op: api.XOn, Kids: []api.Expr{state}}
	list := []api.Expr{
		{Op: api.XBottom}, {Op: api.XBool, N: 1}, {Op: api.XBool}, {Op: api.XInt, N: 1}, {Op: api.XInt}, {Op: api.XInt, N: -1}, {},
		state, selection(0, state), selection(1, state), selection(-1, state), selection(-2, state), joined(state), on, number,
		{Op: api.XKeys, Kids: []api.Expr{{Op: api.XState, Type: typ}}}, {Op: api.XKeys}, {Op: api.XOn}, {Op: api.XNumber}, {Op: api.XField}, {Op: api.XFirst}, {Op: api.XState, Kids: []api.Expr{{}}},
	}
	for i := range list {
		list[i].At = i
	}
	return list
}

// TestAllForms covers P21.2: all operations, and numbers that are none, with up to three kids of many forms.
func TestAllForms(t *testing.T) {
	typ := sample.Of(sample.Bounds(api.Max, 0, 9))
	lists, paths := sample.Lists(pool(typ), 3), somePaths(1)
	covering := map[int]bool{}
	for op := -1; op <= api.XConflict+2; op++ {
		for _, list := range lists {
			x := api.Expr{Op: op, Type: typ, N: int64(len(list) % 2), Kids: list}
			for _, p := range paths {
				if check(t, x, p) {
					covering[op] = true
				}
			}
		}
	}
	for _, op := range []int{api.XState, api.XJoin, api.XIf, api.XRec, api.XPair, api.XWrite, api.XField, api.XFirst, api.XSecond, api.XFlag, api.XNum, api.XSet} {
		if !covering[op] {
			t.Errorf("the operation %d covers nothing", op)
		}
		delete(covering, op)
	}
	if len(covering) > 0 {
		t.Errorf("%v cover something", covering)
	}
}

// TestOperands covers P21.2 for the operands of XFlag and XNum: all forms of conditions and of sums.
func TestOperands(t *testing.T) {
	counts := map[bool]int{}
	for _, kind := range []int{api.Max, api.Min, api.Flag, 0} {
		for _, sort := range []int{0, api.SortInt} {
			typ := api.Type{Sort: sort, Lattice: sample.Bounds(kind, 0, 9)}
			some := pool(api.Type{Lattice: typ.Lattice})
			for op := api.XInt; op <= api.XConflict; op++ {
				for _, list := range sample.Lists(some, 2) {
					operand := api.Expr{Op: op, N: 1, Type: typ, Kids: list}
					for _, outer := range []int{api.XFlag, api.XNum} {
						counts[check(t, api.Expr{Op: outer, Type: typ, Kids: []api.Expr{operand}}, nil)]++
						third := api.Expr{Op: outer, Type: typ, Kids: []api.Expr{{Op: op, Type: typ, Kids: append(slices.Clone(list), state)}, {}}}
						counts[check(t, third, nil)]++
					}
				}
			}
		}
	}
	if counts[true] < 1000 || counts[false] < 1000 {
		t.Errorf("%v", counts)
	}
}

// TestTypes covers P21.2 for the rules that compare types: all pairs of types of many sorts and lattices.
func TestTypes(t *testing.T) {
	all := []api.Type{{}, sample.Of(api.Lattice{Kind: api.Max, Hi: 9, Names: []string{"a"}}), sample.Of(api.Lattice{Kind: api.Max, Hi: 9, Names: []string{}})}
	for _, kind := range []int{api.Max, api.Min, api.Set, api.Closed} {
		for _, l := range []api.Lattice{sample.Bounds(kind, 0, 9), sample.Bounds(kind, 0, 8), sample.Bounds(kind, -1, 9), sample.Words(kind, "a"), sample.Closed([]string{"a"}, api.Rule{If: []string{"a"}, Then: "a"}), sample.MapOf(sample.Bounds(kind, 0, 9))} {
			for _, sort := range []int{0, api.SortInt, api.SortNames, -1} {
				all = append(all, api.Type{Sort: sort, Lattice: l})
			}
		}
	}
	for _, a := range all {
		for _, b := range all {
			kid := api.Expr{Op: api.XState, Type: b}
			for op, inner := range map[int]int{api.XNum: api.XNumber, api.XSet: api.XKeys} {
				x := api.Expr{Op: op, Type: a, Kids: []api.Expr{{Op: inner, Kids: []api.Expr{kid}}}}
				same := a.Sort == b.Sort
				if op == api.XNum {
					same = b.Sort == 0 && (a.Lattice.Kind == api.Max || a.Lattice.Kind == api.Min)
				}
				if want := same && text(a.Lattice) == text(b.Lattice); check(t, x, nil) != want {
					t.Fatalf("%d of %+v and %+v: %v", op, a, b, !want)
				}
			}
		}
	}
}

// TestFurtherKids covers P21.2: kids that no rule names count only for XRec and XSet.
func TestFurtherKids(t *testing.T) {
	set, bottom, number := sample.Of(api.Lattice{Kind: api.Set}), api.Expr{Op: api.XBottom}, sample.Of(sample.Bounds(api.Max, 0, 9))
	node := func(op int, t api.Type, kids ...api.Expr) api.Expr { return api.Expr{Op: op, Type: t, Kids: kids} }
	of := node(api.XState, number)
	for i, c := range []struct {
		x    api.Expr
		want bool
	}{
		{node(api.XJoin, set, bottom, bottom, state), false}, {node(api.XJoin, set, bottom, state, bottom), true}, {node(api.XJoin, set, state), true}, {node(api.XIf, set, bottom, state, state, bottom), true}, {node(api.XIf, set, state, state), false}, {node(api.XIf, set, bottom, state), false},
		{node(api.XWrite, set, state, bottom, bottom, bottom), true}, {node(api.XWrite, set, bottom, state, state), false}, {node(api.XWrite, set), false},
		{node(api.XRec, set), true}, {node(api.XPair, set), false}, {node(api.XSet, set), false}, {node(api.XSet, set, bottom, bottom, bottom, node(api.XKeys, set, node(api.XState, set), bottom)), true}, {node(api.XSet, set, node(api.XKeys, set, bottom, node(api.XState, set))), false},
		{node(api.XFlag, set, node(api.XOr, set, bottom, bottom, node(api.XOn, set, state))), false}, {node(api.XFlag, set, node(api.XAnd, set, node(api.XOn, set, state), node(api.XOn, set, state, bottom), bottom)), true}, {node(api.XFlag, set, node(api.XAnd, set, node(api.XOn, set, state))), false}, {node(api.XFlag, set, node(api.XOr, set, node(api.XOn, set, state))), true}, {node(api.XFlag, set, bottom, node(api.XOn, set, state)), false}, {node(api.XFlag, set, node(api.XOn, set, bottom, state)), false},
		{node(api.XNum, number, node(api.XNumber, set, of, bottom), bottom), true}, {node(api.XNum, number, bottom, node(api.XNumber, set, of)), false}, {node(api.XNum, number, node(api.XPlus, set, node(api.XNumber, set, of))), false}, {node(api.XNum, number, node(api.XPlus, set, node(api.XNumber, set, of), bottom, api.Expr{Op: api.XInt})), false}, {node(api.XNum, number, node(api.XPlus, set, api.Expr{Op: api.XInt}, node(api.XNumber, set, of), bottom)), true},
	} {
		if check(t, c.x, nil) != c.want {
			t.Errorf("case %d", i)
		}
	}
	// Of a pair the first two, of a selection the first one.
	for _, c := range []struct {
		x    api.Expr
		want bool
	}{
		{node(api.XPair, set, selection(-1, state), selection(-2, state), bottom), true}, {node(api.XPair, set, selection(-1, state), bottom, selection(-2, state)), false}, {node(api.XPair, set, selection(-1, state)), false}, {node(api.XRec, set, selection(0, state), selection(1, state), bottom), false}, {node(api.XRec, set, selection(0, state), selection(1, state), selection(2, state)), true},
	} {
		if check(t, c.x, nil) != c.want {
			t.Errorf("%+v", c.x)
		}
	}
	if !check(t, node(api.XFirst, set, state, bottom), []int{-1}) || check(t, node(api.XSecond, set, bottom, state), []int{-2}) || !check(t, node(api.XSecond, set, state, bottom), []int{-2}) || !check(t, node(api.XField, set, joined(state), bottom), []int{0}) {
		t.Error("selections")
	}
}

// shaped returns a random expression that may well cover a path: its operations and kids are those of the rules, most of the time.
func shaped(source *rand.Rand, p []int, depth int) api.Expr {
	if source.Intn(25) == 0 {
		return sample.AnyExpr(source.Intn, 2)
	}
	types := []api.Type{sample.Of(sample.Bounds(api.Max, 0, 9)), sample.Of(sample.Bounds(api.Min, 0, 9)), sample.Of(api.Lattice{Kind: api.Set})}
	x := api.Expr{Type: types[source.Intn(3)], N: int64(source.Intn(3)), At: source.Intn(100)}
	down := func(q []int) api.Expr { return shaped(source, q, depth-1) }
	kids := func(op int, list ...api.Expr) {
		x.Op, x.Kids = op, list
		if source.Intn(20) == 0 {
			x.Kids = append(x.Kids, state)[source.Intn(2):]
		}
	}
	same := func(op int) api.Expr {
		kid := down(p)
		if source.Intn(10) > 0 {
			kid.Type = x.Type
		}
		return api.Expr{Op: op, Kids: []api.Expr{kid}}
	}
	if depth <= 0 {
		return chain(p)
	}
	switch source.Intn(11) {
	case 0:
		kids(api.XJoin, down(p), down(p))
	case 1:
		kids(api.XIf, api.Expr{}, down(p), down(p))
	case 2:
		kids(api.XRec, down(with(p, 0)), down(with(p, 1)))
	case 3:
		kids(api.XPair, down(with(p, -1)), down(with(p, -2)))
	case 4:
		kids(api.XWrite, down(p))
	case 5, 6:
		if len(p) == 0 {
			return chain(p)
		}
		x = selection(p[len(p)-1], down(p[:len(p)-1]))
		x.At = source.Intn(100)
	case 7:
		kids(api.XFlag, condition(source, func() api.Expr { return down(p) }, depth))
	case 8, 9:
		kids(api.XNum, sum(source, same(api.XNumber), depth))
	case 10:
		kids(api.XSet, same(api.XKeys), same(api.XKeys))
	}
	return x
}

// chain returns the expression that is a path.
func chain(p []int) api.Expr {
	x := state
	for _, step := range p {
		x = selection(step, x)
	}
	return x
}

// condition returns a random condition about expressions of one kind.
func condition(source *rand.Rand, one func() api.Expr, depth int) api.Expr {
	if depth <= 0 || source.Intn(2) == 0 {
		return []api.Expr{{Op: api.XOn, Kids: []api.Expr{one()}}, {Op: api.XOn, Kids: []api.Expr{one()}}, {Op: api.XBool, N: int64(source.Intn(2))}}[source.Intn(3)]
	}
	return api.Expr{Op: []int{api.XOr, api.XAnd, api.XAnd, api.XNot}[source.Intn(4)], Kids: []api.Expr{condition(source, one, depth-1), condition(source, one, depth-1)}}
}

// sum returns a random sum or difference of a number and others.
func sum(source *rand.Rand, x api.Expr, depth int) api.Expr {
	for range source.Intn(3) {
		kids := []api.Expr{x, {Op: []int{api.XInt, api.XInt, api.XInt, api.XParam}[source.Intn(4)], N: int64(source.Intn(5) - 1)}}
		if source.Intn(3) == 0 {
			slices.Reverse(kids)
		}
		x = api.Expr{Op: api.XPlus + source.Intn(2), Kids: kids}
	}
	return x
}

// TestShaped covers P21.2 on random expressions, for paths that they may cover and for others; nothing is changed.
func TestShaped(t *testing.T) {
	source := rand.New(rand.NewSource(1))
	all := somePaths(3)
	counts, covering := map[bool]int{}, map[int]int{}
	for range 30000 {
		p := all[source.Intn(len(all))]
		x := shaped(source, p, source.Intn(5))
		before, pathBefore := text(x), text(p)
		if ok := check(t, x, p); ok {
			covering[x.Op]++
			counts[true]++
		} else {
			counts[false]++
		}
		check(t, x, all[source.Intn(len(all))])
		if text(x) != before || text(p) != pathBefore {
			t.Fatalf("%s or %s has changed", before, pathBefore)
		}
	}
	if counts[true] < 5000 || counts[false] < 5000 || len(covering) < 12 {
		t.Errorf("%v, by operations %v", counts, covering)
	}
	for range 20000 {
		check(t, sample.AnyExpr(source.Intn, 3), all[source.Intn(len(all))])
	}
}
