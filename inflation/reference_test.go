package inflation_test

import (
	"maps"
	"slices"

	"plexus/api"
)

// The functions of this file read the chapter a second time, rule by rule, without regard to cost.

// with returns a path followed by a step.
func with(p []int, step int) []int { return append(slices.Clone(p), step) }

// is reports whether x is the path p.
func is(x api.Expr, p []int) bool {
	if x.Op == api.XState {
		return len(p) == 0
	}
	if len(p) == 0 || len(x.Kids) == 0 || !is(x.Kids[0], p[:len(p)-1]) {
		return false
	}
	last := p[len(p)-1]
	return x.Op == api.XField && x.N >= 0 && x.N == int64(last) || x.Op == api.XFirst && last == -1 || x.Op == api.XSecond && last == -2
}

// judgement is one of: covers, holds for, reaches, stays under a path; a kid that does not exist does nothing of it.
type judgement func(x api.Expr, p []int) bool

// does reports whether the kid of x with an index exists and does what is asked.
func does(x api.Expr, i int, judges judgement, p []int) bool {
	return i < len(x.Kids) && judges(x.Kids[i], p)
}

// rules returns the eleven rules; each reports whether it applies.
func rules() []judgement {
	hasOp := func(x api.Expr, op int) bool { return x.Op == op }
	endsWith := func(p []int, step int) bool { return len(p) > 0 && p[len(p)-1] == step }
	return []judgement{
		is,
		func(x api.Expr, p []int) bool {
			return hasOp(x, api.XJoin) && (does(x, 0, covers, p) || does(x, 1, covers, p))
		},
		func(x api.Expr, p []int) bool {
			return hasOp(x, api.XIf) && does(x, 1, covers, p) && does(x, 2, covers, p)
		},
		func(x api.Expr, p []int) bool {
			all := hasOp(x, api.XRec)
			for i := range x.Kids {
				all = all && does(x, i, covers, with(p, i))
			}
			return all
		},
		func(x api.Expr, p []int) bool {
			return hasOp(x, api.XPair) && does(x, 0, covers, with(p, -1)) && does(x, 1, covers, with(p, -2))
		},
		func(x api.Expr, p []int) bool { return hasOp(x, api.XWrite) && does(x, 0, covers, p) },
		func(x api.Expr, p []int) bool {
			isPart := hasOp(x, api.XField) && x.N >= 0 && endsWith(p, int(x.N)) || hasOp(x, api.XFirst) && endsWith(p, -1)
			return isPart && does(x, 0, covers, p[:len(p)-1])
		},
		func(x api.Expr, p []int) bool { return hasOp(x, api.XFlag) && does(x, 0, holds, p) },
		func(x api.Expr, p []int) bool {
			return hasOp(x, api.XNum) && x.Type.Lattice.Kind == api.Max && does(x, 0, reaches(x.Type.Lattice), p)
		},
		func(x api.Expr, p []int) bool {
			return hasOp(x, api.XNum) && x.Type.Lattice.Kind == api.Min && does(x, 0, staysUnder(x.Type.Lattice), p)
		},
		func(x api.Expr, p []int) bool {
			return hasOp(x, api.XSet) && slices.ContainsFunc(x.Kids, func(y api.Expr) bool { return areKeys(x, y, p) })
		},
	}
}

// covers reports whether one of the rules applies.
func covers(x api.Expr, p []int) bool {
	return slices.ContainsFunc(rules(), func(applies judgement) bool { return applies(x, p) })
}

// areKeys reports whether y is an XKeys for rule 11 of x.
func areKeys(x, y api.Expr, p []int) bool {
	return y.Op == api.XKeys && len(y.Kids) > 0 && y.Kids[0].Type.Sort == x.Type.Sort && text(y.Kids[0].Type.Lattice) == text(x.Type.Lattice) && covers(y.Kids[0], p)
}

// holds reports whether x holds for p.
func holds(x api.Expr, p []int) bool {
	switch x.Op {
	case api.XBool:
		return x.N == 1
	case api.XOn:
		return does(x, 0, covers, p)
	case api.XOr:
		return does(x, 0, holds, p) || does(x, 1, holds, p)
	case api.XAnd:
		return does(x, 0, holds, p) && does(x, 1, holds, p)
	}
	return false
}

// isStep reports whether the kid of x with an index is an XInt of at least 0.
func isStep(x api.Expr, i int) bool {
	return does(x, i, func(y api.Expr, _ []int) bool { return y.Op == api.XInt && y.N >= 0 }, nil)
}

// isNumber reports whether x is an XNumber whose kid has the lattice l and covers p.
func isNumber(l api.Lattice, x api.Expr, p []int) bool {
	return x.Op == api.XNumber && len(x.Kids) > 0 && x.Kids[0].Type.Sort == 0 && text(x.Kids[0].Type.Lattice) == text(l) && covers(x.Kids[0], p)
}

// reaches returns the judgement of rule 9 for an XNum with the lattice l.
func reaches(l api.Lattice) judgement {
	return func(x api.Expr, p []int) bool {
		isSum := x.Op == api.XPlus && (does(x, 0, reaches(l), p) && isStep(x, 1) || does(x, 1, reaches(l), p) && isStep(x, 0))
		return isNumber(l, x, p) || isSum
	}
}

// staysUnder returns the judgement of rule 10 for an XNum with the lattice l.
func staysUnder(l api.Lattice) judgement {
	return func(x api.Expr, p []int) bool {
		return isNumber(l, x, p) || x.Op == api.XMinus && does(x, 0, staysUnder(l), p) && isStep(x, 1)
	}
}

// blamed returns the expression to blame for x and p, if x does not cover p.
func blamed(x api.Expr, p []int) api.Expr {
	switch x.Op {
	case api.XIf:
		if !covers(x.Kids[1], p) {
			return blamed(x.Kids[1], p)
		}
		return blamed(x.Kids[2], p)
	case api.XRec:
		for i, kid := range x.Kids {
			if !covers(kid, with(p, i)) {
				return blamed(kid, with(p, i))
			}
		}
	case api.XPair:
		if !covers(x.Kids[0], with(p, -1)) {
			return blamed(x.Kids[0], with(p, -1))
		}
		return blamed(x.Kids[1], with(p, -2))
	case api.XWrite:
		return blamed(x.Kids[0], p)
	}
	return x
}

// carriers returns the offsets of the carriers of x for a path that it covers.
func carriers(x api.Expr, p []int) []int {
	set := map[int]bool{}
	carry(x, p, set)
	return slices.Sorted(maps.Keys(set))
}

// carry adds the carriers of x for a path that it covers.
func carry(x api.Expr, p []int, set map[int]bool) {
	if is(x, p) {
		for x.Op != api.XState {
			x = x.Kids[0]
		}
		set[x.At] = true
		return
	}
	switch x.Op {
	case api.XJoin:
		if !covers(x.Kids[0], p) {
			x.Kids = x.Kids[1:]
		}
		carry(x.Kids[0], p, set)
	case api.XIf:
		carry(x.Kids[1], p, set)
		carry(x.Kids[2], p, set)
	case api.XRec:
		for i, kid := range x.Kids {
			carry(kid, with(p, i), set)
		}
	case api.XPair:
		carry(x.Kids[0], with(p, -1), set)
		carry(x.Kids[1], with(p, -2), set)
	case api.XWrite:
		carry(x.Kids[0], p, set)
	case api.XField, api.XFirst:
		carry(x.Kids[0], p[:len(p)-1], set)
	case api.XFlag:
		carryCondition(x.Kids[0], p, set)
	case api.XNum:
		carryNumber(x.Type.Lattice, x.Kids[0], p, set)
	case api.XSet:
		i := slices.IndexFunc(x.Kids, func(y api.Expr) bool { return areKeys(x, y, p) })
		carry(x.Kids[i].Kids[0], p, set)
	}
}

// carryCondition adds the carriers of a condition that holds for p.
func carryCondition(x api.Expr, p []int, set map[int]bool) {
	switch x.Op {
	case api.XOn:
		carry(x.Kids[0], p, set)
	case api.XOr:
		if !holds(x.Kids[0], p) {
			x.Kids = x.Kids[1:]
		}
		carryCondition(x.Kids[0], p, set)
	case api.XAnd:
		carryCondition(x.Kids[0], p, set)
		carryCondition(x.Kids[1], p, set)
	}
}

// carryNumber adds the carriers of a number that reaches p, or stays under it.
func carryNumber(l api.Lattice, x api.Expr, p []int, set map[int]bool) {
	switch x.Op {
	case api.XNumber:
		carry(x.Kids[0], p, set)
	case api.XPlus:
		if !reaches(l)(x.Kids[0], p) || !isStep(x, 1) {
			x.Kids = x.Kids[1:]
		}
		carryNumber(l, x.Kids[0], p, set)
	case api.XMinus:
		carryNumber(l, x.Kids[0], p, set)
	}
}
