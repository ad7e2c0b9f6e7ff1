package types

import "plexus/api"

// operations are the operations of elaborated expressions, but those of calls, with the kinds of the nodes that they come from.
var operations = [...]struct{ op, node int }{
	{api.XInt, api.NodeInt}, {api.XBool, api.NodeTrue}, {api.XBool, api.NodeFalse}, {api.XName, api.NodeQuote}, {api.XParam, api.NodeName},
	{api.XState, api.NodeState}, {api.XBottom, api.NodeBottom}, {api.XIf, api.NodeIf}, {api.XOr, api.NodeOr}, {api.XAnd, api.NodeAnd}, {api.XNot, api.NodeNot},
	{api.XLessEq, api.NodeLessEq}, {api.XLess, api.NodeLess}, {api.XEqual, api.NodeEqual}, {api.XIn, api.NodeIn}, {api.XLeq, api.NodeLeq},
	{api.XJoin, api.NodeJoin}, {api.XPlus, api.NodePlus}, {api.XMinus, api.NodeMinus}, {api.XField, api.NodeField}, {api.XAt, api.NodeIndex},
}

// functions are the operations of calls, with their functions.
var functions = [...]struct {
	op   int
	name string
}{
	{api.XFlag, "flag"}, {api.XNum, "num"}, {api.XSet, "set"}, {api.XMap, "map"}, {api.XRec, "rec"}, {api.XPair, "pair"}, {api.XOne, "one"}, {api.XWrite, "write"},
	{api.XSize, "size"}, {api.XSum, "sum"}, {api.XNumber, "number"}, {api.XOn, "on"}, {api.XKeys, "keys"}, {api.XValues, "values"},
	{api.XFirst, "first"}, {api.XSecond, "second"}, {api.XConflict, "conflict"},
}

// operationOf returns the operation that the nodes of a kind are elaborated as; those of calls have a text.
func operationOf(kind int, text string) int {
	if kind == api.NodeCall {
		for i := range functions {
			if functions[i].name == text {
				return functions[i].op
			}
		}
	}
	for i := range operations {
		if operations[i].node == kind {
			return operations[i].op
		}
	}
	return 0
}

// kindOf returns the kind of the nodes that are elaborated as an operation, and for calls their function. Of the two kinds for XBool it is NodeTrue. The kind is 0 if there is no such operation.
func kindOf(op int) (int, string) {
	for i := range functions {
		if functions[i].op == op {
			return api.NodeCall, functions[i].name
		}
	}
	for i := range operations {
		if operations[i].op == op {
			return operations[i].node, ""
		}
	}
	return 0, ""
}

// arguments returns how many arguments a function has, and whether this is a fixed number.
func arguments(function string) (int, bool) {
	switch function {
	case "set", "map", "rec":
		return 0, false
	case "write":
		return 3, true
	case "pair":
		return 2, true
	}
	return 1, true
}

// makes returns the kinds of the lattices of which a function makes elements, whichever of them is expected. Calls of these functions are open.
func makes(function string) []int {
	switch function {
	case "flag":
		return []int{api.Flag}
	case "num":
		return []int{api.Max, api.Min}
	case "set":
		return []int{api.Set, api.Closed}
	case "map":
		return []int{api.Map}
	case "rec":
		return []int{api.Product}
	case "pair":
		return []int{api.Lex}
	case "one":
		return []int{api.Flat}
	}
	return nil
}
