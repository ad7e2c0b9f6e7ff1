package eval

import (
	"slices"

	"plexus/api"
	"plexus/join"
	"plexus/names"
	"plexus/register"
)

// result is what an expression evaluates to: a datum if its type is a sort, otherwise a value. It shares memory with the state, the arguments and the expression; only what leaves the package is copied.
type result struct {
	datum api.Datum
	value api.Value
}

// kids evaluates the kid of an expression with an index.
type kids func(i int) result

// evaluator evaluates expressions in a state.
type evaluator struct {
	state api.Value
	args  []api.Datum
}

// evaluate returns the result of an expression. There is none with ErrArgument: what is no part of a valid function can lack kids, and other states and arguments can lack parts.
func evaluate(x api.Expr, s api.Value, args []api.Datum) (r result, e api.Errno) {
	defer func() {
		if recover() != nil {
			r, e = result{}, api.ErrArgument
		}
	}()
	c := evaluator{state: s, args: args}
	return c.result(&x), api.OK
}

// result evaluates an expression.
func (c *evaluator) result(x *api.Expr) result {
	kid := func(i int) result { return c.result(&x.Kids[i]) }
	switch x.Op {
	case api.XParam:
		return result{datum: c.args[x.N]}
	case api.XState:
		return result{value: c.state}
	case api.XIf:
		if isTrue(kid(0)) {
			return kid(1)
		}
		return kid(2)
	}
	if x.Type.Sort == 0 {
		return result{value: element(x, kid)}
	}
	d := api.Datum{Sort: x.Type.Sort}
	switch d.Sort {
	case api.SortInt:
		d.N = number(x, kid)
	case api.SortBool:
		if condition(x, kid) {
			d.N = 1
		}
	case api.SortName:
		d.Name = x.Text // it is an XName: all other names are parameters or chosen by an if
	case api.SortNames:
		d.Names = members(x, kid)
	}
	return result{datum: d}
}

// number evaluates an expression of the sort int.
func number(x *api.Expr, kid kids) int64 {
	switch x.Op {
	case api.XInt:
		return x.N
	case api.XPlus:
		return saturate(kid(0).datum.N + kid(1).datum.N)
	case api.XMinus:
		return saturate(kid(0).datum.N - kid(1).datum.N)
	case api.XNumber:
		return kid(0).value.N
	case api.XSum:
		return sum(kid(0).value.Parts)
	}
	return size(kid(0))
}

// saturate returns n, or the limit of numbers that is beyond it.
func saturate(n int64) int64 {
	return min(max(n, -api.MaxNumber), api.MaxNumber)
}

// sum returns the sum of the numbers in a list.
func sum(list []api.Value) int64 {
	var total int64
	for _, v := range list {
		total = saturate(total + v.N)
	}
	return total
}

// size returns the size of a set of names, a set, a map or a register, which have no elements in the other fields.
func size(r result) int64 {
	return int64(len(r.datum.Names) + len(r.value.Names) + len(r.value.Entries))
}

// condition evaluates an expression of the sort bool.
func condition(x *api.Expr, kid kids) bool {
	switch x.Op {
	case api.XBool:
		return x.N == 1
	case api.XOr:
		return isTrue(kid(0)) || isTrue(kid(1))
	case api.XAnd:
		return isTrue(kid(0)) && isTrue(kid(1))
	case api.XNot:
		return !isTrue(kid(0))
	case api.XLessEq:
		return kid(0).datum.N <= kid(1).datum.N
	case api.XLess:
		return kid(0).datum.N < kid(1).datum.N
	case api.XEqual:
		return isSame(kid(0).datum, kid(1).datum)
	case api.XIn:
		return names.Has(kid(1).datum.Names, kid(0).datum.Name)
	case api.XLeq:
		return join.Leq(x.Kids[0].Type.Lattice, kid(0).value, kid(1).value)
	case api.XConflict:
		return isConflict(kind(x.Kids[0]), kid(0).value)
	}
	return kid(0).value.N == 1 // of a flag, by XOn
}

// isTrue reports whether the result of a condition is true.
func isTrue(r result) bool { return r.datum.N == 1 }

// isSame reports whether two data of one sort are the same.
func isSame(a, b api.Datum) bool {
	return a.N == b.N && a.Name == b.Name && slices.Equal(a.Names, b.Names)
}

// kind returns the kind of the lattice of an expression.
func kind(x api.Expr) int { return x.Type.Lattice.Kind }

// isConflict reports whether an element of a Flat is its top, or a register has different names.
func isConflict(kind int, v api.Value) bool {
	if kind == api.Flat {
		return v.N == flatTop
	}
	return register.Conflict(v)
}

// members evaluates an expression of the sort names.
func members(x *api.Expr, kid kids) []string {
	if x.Op == api.XValues && kind(x.Kids[0]) == api.Register {
		return register.Names(kid(0).value)
	}
	// The keys of a map, the members of a set, or the one name that an element of a Flat can have.
	return kid(0).value.Names
}
