package deltas_test

import "plexus/api"

// The functions of this file read the chapter a second time, without regard to cost. Equal is what has the same text without offsets.

// derive returns D(p, e).
func derive(p, e api.Expr) api.Expr {
	none := api.Expr{Op: api.XBottom, Type: e.Type, At: e.At}
	isNone := func(x api.Expr) bool { return x.Op == api.XBottom }
	made := e
	made.Kids = nil
	switch {
	case text(without(p)) == text(without(e)):
		return none
	case e.Op == api.XJoin:
		a, b := derive(p, e.Kids[0]), derive(p, e.Kids[1])
		if isNone(a) {
			return b
		}
		if isNone(b) {
			return a
		}
		made.Kids = []api.Expr{a, b}
		return made
	case e.Op == api.XIf:
		a, b := derive(p, e.Kids[1]), derive(p, e.Kids[2])
		if isNone(a) && isNone(b) {
			return none
		}
		made.Kids = []api.Expr{e.Kids[0], a, b}
		return made
	case e.Op == api.XRec:
		all := true
		for i, kid := range e.Kids {
			d := derive(field(p, i), kid)
			all = all && isNone(d)
			made.Kids = append(made.Kids, d)
		}
		if all {
			return none
		}
		return made
	case e.Op == api.XMap:
		for i := 0; i+1 < len(e.Kids); i += 2 {
			if d := derive(at(p, e.Kids[i]), e.Kids[i+1]); !isNone(d) {
				made.Kids = append(made.Kids, e.Kids[i], d)
			}
		}
		if len(made.Kids) == 0 {
			return none
		}
		return made
	}
	return e
}

// count returns the number of nodes of an expression.
func count(x api.Expr) int {
	list, n := []api.Expr{x}, 0
	for ; n < len(list); n++ {
		list = append(list, list[n].Kids...)
	}
	return n
}
