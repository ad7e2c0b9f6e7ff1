package deltas

import (
	"slices"

	"plexus/api"
)

// derivative returns the derivative of an expression relative to a path. It shares memory with the expression, and may be the same.
func derivative(path, x *api.Expr) *api.Expr {
	if equal(x, path) {
		return bottom(x)
	}
	kid := func(i int, path *api.Expr) *api.Expr { return derivative(path, &x.Kids[i]) }
	switch x.Op {
	case api.XJoin:
		return ofJoin(x, kid(0, path), kid(1, path))
	case api.XIf:
		return ofIf(x, kid(1, path), kid(2, path))
	case api.XRec:
		return ofRec(x, func(i int) *api.Expr { return kid(i, field(path, i)) })
	case api.XMap:
		return ofMap(x, func(i int) *api.Expr { return kid(i+1, at(path, &x.Kids[i])) })
	}
	return x
}

// ofJoin returns the derivative of a join, given those of its operands.
func ofJoin(x, a, b *api.Expr) *api.Expr {
	switch {
	case isBottom(a):
		return b
	case isBottom(b):
		return a
	}
	return with(x, a, b)
}

// ofIf returns the derivative of a choice, given those of its branches.
func ofIf(x, a, b *api.Expr) *api.Expr {
	if isBottom(a) && isBottom(b) {
		return bottom(x)
	}
	return with(x, &x.Kids[0], a, b)
}

// ofRec returns the derivative of a product, given how to get those of its fields.
func ofRec(x *api.Expr, value func(i int) *api.Expr) *api.Expr {
	fields := make([]*api.Expr, len(x.Kids))
	for i := range fields {
		fields[i] = value(i)
	}
	if !slices.ContainsFunc(fields, isMore) {
		return bottom(x)
	}
	return with(x, fields...)
}

// ofMap returns the derivative of a map, given how to get that of the value behind the key with an index.
func ofMap(x *api.Expr, value func(i int) *api.Expr) *api.Expr {
	var pairs []*api.Expr
	for i := 0; i < len(x.Kids); i += 2 {
		if v := value(i); isMore(v) {
			pairs = append(pairs, &x.Kids[i], v)
		}
	}
	if len(pairs) == 0 {
		return bottom(x)
	}
	return with(x, pairs...)
}

// with returns an expression with other kids.
func with(x *api.Expr, kids ...*api.Expr) *api.Expr {
	made := *x
	made.Kids = make([]api.Expr, len(kids))
	for i, kid := range kids {
		made.Kids[i] = *kid
	}
	return &made
}

// bottom returns the bottom that takes the place of an expression.
func bottom(x *api.Expr) *api.Expr {
	return &api.Expr{Op: api.XBottom, Type: x.Type, At: x.At}
}

// isBottom reports whether an expression is a bottom by its form: nothing has to be sent for it.
func isBottom(x *api.Expr) bool { return x.Op == api.XBottom }

// isMore reports the opposite.
func isMore(x *api.Expr) bool { return !isBottom(x) }
