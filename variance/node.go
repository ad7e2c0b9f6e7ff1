package variance

import "plexus/api"

// node is an expression with the variances of all its parts. They are computed once, since the search for the expression to blame asks for them at each level.
type node struct {
	*api.Expr
	parts    []node
	variance int
}

// judge returns the node of an expression.
func judge(e *api.Expr) node {
	n := node{Expr: e, parts: make([]node, len(e.Kids))}
	for i := range e.Kids {
		n.parts[i] = judge(&e.Kids[i])
	}
	n.variance = n.vary()
	return n
}

// vary returns the variance of an expression by those of its kids.
func (n *node) vary() int {
	switch {
	case !hasForm(n.Expr):
		return None
	case n.Op == api.XState:
		return Up
	}
	// If all kids are Constant, so is this, whether the operation is directed or not.
	v := Constant
	for i, kid := range n.parts {
		v = Both(v, turn(n.sign(i), kid.variance))
	}
	return v
}

// blame returns the expression to blame for an expression that has not the variance wanted, Up or Down.
func (n *node) blame(wanted int) *api.Expr {
	if !hasForm(n.Expr) || !n.isDirected() {
		return n.Expr
	}
	for i := range n.parts {
		kid, v := &n.parts[i], turn(n.sign(i), wanted)
		if kid.variance != Constant && kid.variance != v {
			return kid.blame(v)
		}
	}
	return n.Expr
}

// isDirected reports whether all kids that have to be Constant are. So an operation that never is directed counts as directed if all its kids are Constant; then there is none to blame anyway.
func (n *node) isDirected() bool {
	for i, kid := range n.parts {
		if n.sign(i) == fixed && kid.variance != Constant {
			return false
		}
	}
	return true
}

// turn returns what a kid with a sign and a variance makes of the variance of its expression.
func turn(sign byte, v int) int {
	switch {
	case sign == minus:
		return Flip(v)
	case sign == fixed && v != Constant:
		return None
	}
	return v
}
