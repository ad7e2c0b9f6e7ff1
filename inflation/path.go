package inflation

import "plexus/api"

// The steps of paths that lead to the parts of a pair. Those that lead to fields are their indices.
const (
	firstPart  = -1
	secondPart = -2
)

// path is a path by its last step and the path before it; the empty one is nil. So the kids of an expression can go on from its path, each in its own way.
type path struct {
	before *path
	step   int64
}

// behind returns the judge for the path followed by a step.
func (j judge) behind(step int64) judge {
	j.path = &path{before: j.path, step: step}
	return j
}

// before returns the judge for the path without its last step, and whether this is the step that x takes from its kid.
func (j judge) before(x *api.Expr) (judge, bool) {
	step, ok := stepOf(x)
	if !ok || j.path == nil || j.path.step != step {
		return judge{}, false
	}
	j.path = j.path.before
	return j, true
}

// stepOf returns the step that an expression takes from its kid, and whether it takes one.
func stepOf(x *api.Expr) (int64, bool) {
	switch x.Op {
	case api.XField:
		return x.N, x.N >= 0
	case api.XFirst:
		return firstPart, true
	case api.XSecond:
		return secondPart, true
	}
	return 0, false
}

// kid returns the kid of an expression with an index. If there is none, it returns an expression of no operation, to which no rule applies.
func kid(x *api.Expr, i int) *api.Expr {
	if i >= len(x.Kids) {
		return &api.Expr{}
	}
	return &x.Kids[i]
}

// pair returns the kids of an expression with two operands, without further ones.
func pair(x *api.Expr) []api.Expr {
	return x.Kids[:min(2, len(x.Kids))]
}
