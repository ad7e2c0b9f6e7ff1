package variance

import "plexus/api"

// The signs of kids: with the first two a kid is directed; with the third one the operation is directed only if the kid is Constant.
const (
	plus  = '+'
	minus = '-'
	fixed = '='
)

// signs has the signs of all kids of each operation with a fixed number of kids. Where ? stands, the sign depends on more than the operation.
var signs = [...]string{
	api.XInt: "", api.XBool: "", api.XName: "", api.XParam: "", api.XState: "", api.XBottom: "",
	api.XIf: "?++", api.XOr: "++", api.XAnd: "++", api.XNot: "-",
	api.XLessEq: "-+", api.XLess: "-+", api.XEqual: "==", api.XIn: "=+", api.XLeq: "-+",
	api.XJoin: "++", api.XPlus: "++", api.XMinus: "+-", api.XField: "+", api.XAt: "+=",
	api.XFlag: "+", api.XNum: "?", api.XPair: "++", api.XOne: "=", api.XWrite: "+==",
	api.XSize: "?", api.XSum: "?", api.XNumber: "?", api.XOn: "+", api.XKeys: "+", api.XValues: "=",
	api.XFirst: "+", api.XSecond: "=", api.XConflict: "?",
}

// hasForm reports whether an expression has the form of its operation.
func hasForm(e *api.Expr) bool {
	switch e.Op {
	case api.XSet, api.XRec:
		return true
	case api.XMap:
		return len(e.Kids)%2 == 0
	}
	return e.Op >= api.XInt && e.Op <= api.XConflict && len(e.Kids) == len(signs[e.Op])
}

// sign returns the sign of a kid of an expression that has the form of its operation.
func (n *node) sign(i int) byte {
	plusIf := func(condition bool) byte {
		if condition {
			return plus
		}
		return fixed
	}
	kid := &n.Kids[i]
	switch n.Op {
	case api.XIf:
		if i == 0 {
			return choiceSign(n.Kids[1], n.Kids[2])
		}
	case api.XNum:
		return numberSign(n.Type.Lattice.Kind)
	case api.XNumber:
		return numberSign(kid.Type.Lattice.Kind)
	case api.XSum:
		return sumSign(kid.Type.Lattice)
	case api.XSize:
		return plusIf(hasSize(kid.Type))
	case api.XConflict:
		return plusIf(kid.Type.Lattice.Kind == api.Flat)
	case api.XSet:
		return plusIf(kid.Type.Sort != api.SortName)
	case api.XMap:
		return plusIf(i%2 == 1)
	case api.XRec:
		return plus
	}
	return signs[n.Op][i]
}

// choiceSign returns the sign of the condition of an XIf with two branches. If the condition is Constant, it makes no difference.
func choiceSign(yes, no api.Expr) byte {
	switch {
	case isBelow(no, yes):
		return plus
	case isBelow(yes, no):
		return minus
	}
	return fixed
}

// isBelow reports whether a is below b by its form.
func isBelow(a, b api.Expr) bool {
	switch a.Op {
	case api.XBottom:
		return true
	case api.XInt, api.XBool:
		return a.Op == b.Op && a.N <= b.N
	}
	return false
}

// numberSign returns the sign with which numbers and elements of a lattice of a kind depend on each other.
func numberSign(kind int) byte {
	switch kind {
	case api.Max:
		return plus
	case api.Min:
		return minus
	}
	return fixed
}

// sumSign returns the sign of the map whose values are added. A key that a map lacks counts as 0, so its value has to be on the right side of 0.
func sumSign(l api.Lattice) byte {
	if l.Kind != api.Map || len(l.Parts) != 1 {
		return fixed
	}
	part := l.Parts[0]
	if part.Kind == api.Max && part.Lo < 0 || part.Kind == api.Min && part.Hi > 0 {
		return fixed
	}
	return numberSign(part.Kind)
}

// hasSize reports whether greater values of a type have greater sizes. (A greater register can have fewer entries.)
func hasSize(t api.Type) bool {
	switch t.Sort {
	case api.SortNames:
		return true
	case 0:
		return t.Lattice.Kind == api.Set || t.Lattice.Kind == api.Map || t.Lattice.Kind == api.Closed
	}
	return false
}
