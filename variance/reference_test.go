package variance_test

import (
	"strings"

	"plexus/api"
	"plexus/variance"
)

// row is a row of the chapter's table of directed kids: the operation, the number of its kids (-1 for any, -2 for an even one), the condition, and the directed kids with their signs.
type row struct {
	op, kids  int
	condition func(x api.Expr) bool
	directed  string
}

// The directed kids of a row: numbers with signs, or one of these.
const (
	never  = "never"
	others = "others" // those whose type does not have the sort name, +
	odd    = "odd"    // those with odd indices, +
	every  = "every"  // all, +
)

// isConstant returns the condition that some kids are Constant.
func isConstant(kids ...int) func(x api.Expr) bool {
	return func(x api.Expr) bool {
		for _, i := range kids {
			if of(x.Kids[i]) != variance.Constant {
				return false
			}
		}
		return true
	}
}

// isKind returns the condition that the lattice of the type of an expression or of its kid 0 has a kind.
func isKind(ofKid bool, kind int) func(x api.Expr) bool {
	return func(x api.Expr) bool {
		if ofKid {
			x = x.Kids[0]
		}
		return x.Type.Lattice.Kind == kind
	}
}

// isSummed returns the condition that the lattice of the type of kid 0 is a Map with one part of a kind.
func isSummed(kind int) func(x api.Expr) bool {
	return func(x api.Expr) bool {
		l := x.Kids[0].Type.Lattice
		if l.Kind != api.Map || len(l.Parts) != 1 || l.Parts[0].Kind != kind {
			return false
		}
		return kind == api.Max && !(l.Parts[0].Lo < 0) || kind == api.Min && !(l.Parts[0].Hi > 0)
	}
}

// isBelow returns the condition that one kid is below another one by its form.
func isBelow(i, k int) func(x api.Expr) bool {
	return func(x api.Expr) bool {
		a, b := x.Kids[i], x.Kids[k]
		return a.Op == api.XInt && b.Op == api.XInt && a.N <= b.N || a.Op == api.XBool && b.Op == api.XBool && a.N <= b.N || a.Op == api.XBottom
	}
}

// isSized is the condition of XSize.
func isSized(x api.Expr) bool {
	t := x.Kids[0].Type
	if t.Sort != 0 {
		return t.Sort == api.SortNames
	}
	return t.Lattice.Kind == api.Set || t.Lattice.Kind == api.Map || t.Lattice.Kind == api.Closed
}

// areNamesConstant is the condition of XSet.
func areNamesConstant(x api.Expr) bool {
	for _, kid := range x.Kids {
		if kid.Type.Sort == api.SortName && of(kid) != variance.Constant {
			return false
		}
	}
	return true
}

// areKeysConstant is the condition of XMap.
func areKeysConstant(x api.Expr) bool {
	for i := 0; i < len(x.Kids); i += 2 {
		if of(x.Kids[i]) != variance.Constant {
			return false
		}
	}
	return true
}

// table returns the rows in the order of the chapter, and those of the leaves.
func table() []row {
	return []row{
		{api.XIf, 3, isConstant(0), "1+ 2+"}, {api.XIf, 3, isBelow(2, 1), "0+ 1+ 2+"}, {api.XIf, 3, isBelow(1, 2), "0- 1+ 2+"},
		{api.XOr, 2, nil, "0+ 1+"}, {api.XAnd, 2, nil, "0+ 1+"}, {api.XJoin, 2, nil, "0+ 1+"}, {api.XPlus, 2, nil, "0+ 1+"}, {api.XPair, 2, nil, "0+ 1+"},
		{api.XMinus, 2, nil, "0+ 1-"}, {api.XLessEq, 2, nil, "0- 1+"}, {api.XLess, 2, nil, "0- 1+"}, {api.XLeq, 2, nil, "0- 1+"}, {api.XNot, 1, nil, "0-"}, {api.XIn, 2, isConstant(0), "1+"},
		{api.XField, 1, nil, "0+"}, {api.XFirst, 1, nil, "0+"}, {api.XFlag, 1, nil, "0+"}, {api.XOn, 1, nil, "0+"}, {api.XKeys, 1, nil, "0+"}, {api.XAt, 2, isConstant(1), "0+"},
		{api.XNum, 1, isKind(false, api.Max), "0+"}, {api.XNum, 1, isKind(false, api.Min), "0-"}, {api.XNumber, 1, isKind(true, api.Max), "0+"}, {api.XNumber, 1, isKind(true, api.Min), "0-"}, {api.XSum, 1, isSummed(api.Max), "0+"}, {api.XSum, 1, isSummed(api.Min), "0-"},
		{api.XSize, 1, isSized, "0+"}, {api.XConflict, 1, isKind(true, api.Flat), "0+"}, {api.XSet, -1, areNamesConstant, others}, {api.XMap, -2, areKeysConstant, odd}, {api.XRec, -1, nil, every}, {api.XWrite, 3, isConstant(1, 2), "0+"},
		{api.XEqual, 2, nil, never}, {api.XSecond, 1, nil, never}, {api.XOne, 1, nil, never}, {api.XValues, 1, nil, never},
		{api.XState, 0, nil, never}, {api.XInt, 0, nil, never}, {api.XBool, 0, nil, never}, {api.XName, 0, nil, never}, {api.XParam, 0, nil, never}, {api.XBottom, 0, nil, never},
	}
}

// hasForm reports whether an expression has the form of its operation.
func hasForm(x api.Expr) bool {
	for _, r := range table() {
		if r.op == x.Op {
			return r.kids == len(x.Kids) || r.kids == -1 || r.kids == -2 && len(x.Kids)%2 == 0
		}
	}
	return false
}

// directed returns the directed kids of an expression that has its form, with the sign '+' or '-', and whether it is directed.
func directed(x api.Expr) (map[int]byte, bool) {
	kids := map[int]byte{}
	for _, r := range table() {
		if r.op != x.Op || r.directed == never || r.condition != nil && !r.condition(x) {
			continue
		}
		for i, kid := range x.Kids {
			if r.directed == every || r.directed == odd && i%2 == 1 || r.directed == others && kid.Type.Sort != api.SortName {
				kids[i] = '+'
			}
		}
		if r.directed[0] <= '9' {
			for _, word := range strings.Fields(r.directed) {
				kids[int(word[0]-'0')] = word[1]
			}
		}
		return kids, true
	}
	return nil, false
}

// of returns the variance of an expression by the five rules.
func of(x api.Expr) int {
	if !hasForm(x) {
		return variance.None
	}
	if x.Op == api.XState {
		return variance.Up
	}
	areConstant := true
	for _, kid := range x.Kids {
		areConstant = areConstant && of(kid) == variance.Constant
	}
	if areConstant {
		return variance.Constant
	}
	kids, ok := directed(x)
	if !ok {
		return variance.None
	}
	seen := map[int]bool{}
	for i, sign := range kids {
		v := of(x.Kids[i])
		if sign == '-' && (v == variance.Up || v == variance.Down) {
			v = variance.Up + variance.Down - v
		}
		seen[v] = true
	}
	switch {
	case seen[variance.None] || seen[variance.Up] && seen[variance.Down]:
		return variance.None
	case seen[variance.Up]:
		return variance.Up
	case seen[variance.Down]:
		return variance.Down
	}
	return variance.Constant
}

// blamed returns the expression to blame for an expression and a direction.
func blamed(x api.Expr, d int) api.Expr {
	if !hasForm(x) {
		return x
	}
	kids, _ := directed(x)
	for i, kid := range x.Kids {
		sign, ok := kids[i]
		if !ok {
			continue
		}
		wanted := d
		if sign == '-' {
			wanted = variance.Up + variance.Down - d
		}
		if v := of(kid); v != variance.Constant && v != wanted {
			return blamed(kid, wanted)
		}
	}
	return x
}
