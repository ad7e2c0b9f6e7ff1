package inflation

import (
	"plexus/api"
	"plexus/lattice"
	"plexus/types"
)

// judge judges expressions for a path. It judges each of them once, since they can be deep, so it notes its reasons meanwhile.
type judge struct {
	path    *path
	reasons *reasons
}

// reasons are what a judgement leaves behind.
type reasons struct {
	carriers []int // the offsets of the carriers, if the path is covered
	blamed   int   // the offset of the expression to blame, if it is not
}

// newJudge returns the judge for the empty path.
func newJudge() judge {
	return judge{reasons: &reasons{}}
}

// covers reports whether an expression covers the path.
func (j judge) covers(x *api.Expr) bool {
	ok := j.follows(x)
	switch x.Op {
	case api.XIf, api.XRec, api.XPair, api.XWrite:
		// The first kid that does not cover its path was the last one that was judged; what is noted for it is to blame.
	default:
		if !ok {
			j.reasons.blamed = x.At
		}
	}
	return ok
}

// follows reports whether one of the rules applies to an expression. Two can apply only to a selection: one of a field or of a first part that is the path covers it by the rule for parts, too, with the same carrier.
func (j judge) follows(x *api.Expr) bool {
	switch x.Op {
	case api.XState, api.XSecond:
		return j.is(x)
	case api.XField, api.XFirst:
		q, ok := j.before(x)
		return ok && q.covers(kid(x, 0))
	case api.XJoin:
		return j.either(pair(x), j.covers)
	case api.XIf:
		return j.covers(kid(x, 1)) && j.covers(kid(x, 2))
	case api.XRec:
		return j.coversFields(x.Kids)
	case api.XPair:
		return j.behind(firstPart).covers(kid(x, 0)) && j.behind(secondPart).covers(kid(x, 1))
	case api.XWrite:
		return j.covers(kid(x, 0))
	case api.XFlag:
		return j.holds(kid(x, 0))
	case api.XNum:
		return j.coversNumber(x)
	case api.XSet:
		return j.coversMembers(x)
	}
	return false
}

// is reports whether an expression is the path.
func (j judge) is(x *api.Expr) bool {
	if x.Op == api.XState && j.path == nil {
		j.reasons.carriers = append(j.reasons.carriers, x.At)
		return true
	}
	q, ok := j.before(x)
	return ok && q.is(kid(x, 0))
}

// coversFields reports whether the values of all fields cover their paths.
func (j judge) coversFields(values []api.Expr) bool {
	for i := range values {
		if !j.behind(int64(i)).covers(&values[i]) {
			return false
		}
	}
	return true
}

// coversNumber reports whether the rule for XNum applies.
func (j judge) coversNumber(x *api.Expr) bool {
	switch l := &x.Type.Lattice; l.Kind {
	case api.Max:
		return j.reaches(kid(x, 0), l)
	case api.Min:
		return j.staysUnder(kid(x, 0), l)
	}
	return false
}

// coversMembers reports whether the rule for XSet applies.
func (j judge) coversMembers(x *api.Expr) bool {
	return j.either(x.Kids, func(y *api.Expr) bool {
		of := kid(y, 0)
		return y.Op == api.XKeys && types.Same(of.Type, x.Type) && j.covers(of)
	})
}

// holds reports whether a condition holds for the path.
func (j judge) holds(x *api.Expr) bool {
	switch x.Op {
	case api.XBool:
		return x.N == 1
	case api.XOn:
		return j.covers(kid(x, 0))
	case api.XOr:
		return j.either(pair(x), j.holds)
	case api.XAnd:
		return j.holds(kid(x, 0)) && j.holds(kid(x, 1))
	}
	return false
}

// reaches reports whether a number of which an element of l is made reaches the path.
func (j judge) reaches(x *api.Expr, l *api.Lattice) bool {
	if x.Op != api.XPlus {
		return j.isNumber(x, l)
	}
	a, b := kid(x, 0), kid(x, 1)
	return isNatural(b) && j.reaches(a, l) || isNatural(a) && j.reaches(b, l)
}

// staysUnder reports whether a number of which an element of l is made stays under the path.
func (j judge) staysUnder(x *api.Expr, l *api.Lattice) bool {
	if x.Op != api.XMinus {
		return j.isNumber(x, l)
	}
	return isNatural(kid(x, 1)) && j.staysUnder(kid(x, 0), l)
}

// isNumber reports whether x is the number of an element of l that covers the path. The number of an element with other bounds could be one that l does not have.
func (j judge) isNumber(x *api.Expr, l *api.Lattice) bool {
	of := kid(x, 0)
	return x.Op == api.XNumber && of.Type.Sort == 0 && lattice.Equal(of.Type.Lattice, *l) && j.covers(of)
}

// either reports whether one of the expressions is accepted. Only the carriers of the first one that is remain noted.
func (j judge) either(list []api.Expr, accepts func(x *api.Expr) bool) bool {
	count := len(j.reasons.carriers)
	for i := range list {
		if accepts(&list[i]) {
			return true
		}
		j.reasons.carriers = j.reasons.carriers[:count]
	}
	return false
}

// isNatural reports whether an expression is a number that is written out and at least 0.
func isNatural(x *api.Expr) bool {
	return x.Op == api.XInt && x.N >= 0
}
