package types_test

import (
	"fmt"
	"math/rand"
	"slices"

	"plexus/api"
	"plexus/lattice"
)

// The types of data.
var (
	number = api.Type{Sort: api.SortInt}
	truth  = api.Type{Sort: api.SortBool}
	name   = api.Type{Sort: api.SortName}
	names  = api.Type{Sort: api.SortNames}
)

// of returns the type of the elements of a lattice.
func of(l api.Lattice) api.Type { return api.Type{Lattice: l} }

// made is a tree with its elaboration.
type made struct {
	n api.Node
	e api.Expr
}

// step is the elaboration of one expression: its offset, what is expected of it, and whether something that does not depend on other expressions is.
type step struct {
	at     int
	t      api.Type
	strict bool
	open   bool
}

// maker makes random expressions together with their elaborations. It knows the type of each expression before it makes it, so that there are no faults.
type maker struct {
	source *rand.Rand
	l      api.Lattice
	params []api.Param
	used   map[int]bool // offsets
	steps  []step       // in the order of elaboration
}

// newMaker returns a maker of expressions on an object with the lattice l, with some parameters of all sorts.
func newMaker(source *rand.Rand, l api.Lattice) *maker {
	m := &maker{source: source, l: l, used: map[int]bool{}}
	for i, sort := range source.Perm(8) {
		m.params = append(m.params, api.Param{Name: []string{"s", "if", "k", "x-1", "p", "q", "set", "z"}[i], Sort: 1 + sort%4})
	}
	return m
}

// offset returns an offset that no other node has.
func (m *maker) offset() int {
	for {
		at := m.source.Intn(1000000) - 1000
		if !m.used[at] {
			m.used[at] = true
			return at
		}
	}
}

// one returns an element of a list.
func one[T any](m *maker, list ...T) T { return list[m.source.Intn(len(list))] }

// make makes an expression of the type t. What is called how says what the elaboration knows: whether t is expected for sure, or only because another expression has it, or not at all.
func (m *maker) make(t api.Type, how int, depth int) made {
	at := m.offset()
	index := len(m.steps)
	m.steps = append(m.steps, step{at: at, t: t, strict: how == sure})
	var x made
	if t.Sort != 0 {
		x = m.data(t, how, depth)
	} else {
		x = m.elements(t, how, depth)
	}
	x.n.At, x.e.At, x.e.Type = at, at, t
	fixBottoms(&x)
	m.steps[index].open = isOpen(x.n)
	return x
}

// What the elaboration of an expression knows of its type.
const (
	unknown = 1 // nothing: the expression must not be open
	told    = 2 // the type of another expression
	sure    = 3
	opened  = 4 // as told, and the expression has to be open
)

// fixBottoms gives the bottoms of the fields that have no entry the offset of their call.
func fixBottoms(x *made) {
	if x.e.Op == api.XRec {
		for i := range x.e.Kids {
			if x.e.Kids[i].At == omitted {
				x.e.Kids[i].At = x.e.At
			}
		}
	}
}

// omitted is a mark for the bottoms of fields without an entry.
const omitted = -1 << 60

// isOpen reports whether an expression is open.
func isOpen(n api.Node) bool {
	switch n.Kind {
	case api.NodeBottom:
		return true
	case api.NodeCall:
		return slices.Contains([]string{"flag", "num", "set", "map", "rec", "pair", "one"}, n.Text)
	case api.NodeJoin:
		return isOpen(n.Kids[0]) && isOpen(n.Kids[1])
	case api.NodeIf:
		return isOpen(n.Kids[1]) && isOpen(n.Kids[2])
	}
	return false
}

// compose returns a node of a kind and an operation with the same kids.
func compose(kind int, text string, op int, kids ...made) made {
	x := made{n: api.Node{Kind: kind, Text: text}, e: api.Expr{Op: op}}
	for _, kid := range kids {
		x.n.Kids = append(x.n.Kids, kid.n)
		x.e.Kids = append(x.e.Kids, kid.e)
	}
	return x
}

// data makes an expression of a sort.
func (m *maker) data(t api.Type, how, depth int) made {
	if depth <= 0 || m.source.Intn(6) == 0 {
		return m.leaf(t)
	}
	d := depth - 1
	if m.source.Intn(5) == 0 {
		return m.choice(t, how, d)
	}
	switch t.Sort {
	case api.SortInt:
		if x, ok := m.reading(one(m, "size", "sum", "number"), d); ok {
			return x
		}
		i := m.source.Intn(2)
		return compose(api.NodePlus+i, "", api.XPlus+i, m.make(number, sure, d), m.make(number, sure, d))
	case api.SortBool:
		return m.condition(d)
	case api.SortNames:
		if x, ok := m.reading(one(m, "keys", "values"), d); ok {
			return x
		}
	}
	return m.leaf(t)
}

// condition makes an expression of the sort bool.
func (m *maker) condition(d int) made {
	switch i := m.source.Intn(9); i {
	case 0, 1:
		return compose(api.NodeOr+i, "", api.XOr+i, m.make(truth, sure, d), m.make(truth, sure, d))
	case 2:
		return compose(api.NodeNot, "", api.XNot, m.make(truth, sure, d))
	case 3, 4:
		return compose(api.NodeLessEq+i-3, "", api.XLessEq+i-3, m.make(number, sure, d), m.make(number, sure, d))
	case 5:
		t := one(m, number, truth, name, names)
		return compose(api.NodeEqual, "", api.XEqual, m.make(t, unknown, d), m.make(t, told, d))
	case 6:
		return compose(api.NodeIn, "", api.XIn, m.make(name, sure, d), m.make(names, sure, d))
	case 7:
		return compose(api.NodeLeq, "", api.XLeq, m.two(one(m, m.readable()...), d)...)
	}
	if x, ok := m.reading(one(m, "on", "conflict"), d); ok {
		return x
	}
	return m.leaf(truth)
}

// leaf makes an expression of a sort without parts, or with few.
func (m *maker) leaf(t api.Type) made {
	var fitting []int
	for i, p := range m.params {
		if p.Sort == t.Sort {
			fitting = append(fitting, i)
		}
	}
	if m.source.Intn(2) == 0 || t.Sort == api.SortNames {
		i := one(m, fitting...)
		return made{api.Node{Kind: api.NodeName, Text: m.params[i].Name}, api.Expr{Op: api.XParam, N: int64(i)}}
	}
	switch t.Sort {
	case api.SortInt:
		n := one(m, 0, 1, -1, 7, api.MaxNumber, -api.MaxNumber)
		return made{api.Node{Kind: api.NodeInt, N: int64(n)}, api.Expr{Op: api.XInt, N: int64(n)}}
	case api.SortBool:
		i := m.source.Intn(2)
		return made{api.Node{Kind: api.NodeTrue + i}, api.Expr{Op: api.XBool, N: int64(1 - i)}}
	}
	s := one(m, "a", "s", "if", "abcdefghij-12345")
	return made{api.Node{Kind: api.NodeQuote, Text: s}, api.Expr{Op: api.XName, Text: s}}
}

// choice makes an if.
func (m *maker) choice(t api.Type, how, d int) made {
	condition := m.make(truth, sure, d)
	var branches []made
	switch how {
	case unknown:
		branches = m.two(t, d)
	case opened:
		branches = []made{m.make(t, opened, d), m.make(t, opened, d)}
	default:
		branches = []made{m.make(t, how, d), m.make(t, how, d)}
	}
	return compose(api.NodeIf, "", api.XIf, append([]made{condition}, branches...)...)
}

// two makes two operands of the same type, of which at least one is not open.
func (m *maker) two(t api.Type, d int) []made {
	if t.Sort == 0 && m.source.Intn(2) == 0 {
		second := m.make(t, unknown, d)
		return []made{m.make(t, opened, d), second}
	}
	return []made{m.make(t, unknown, d), m.make(t, told, d)}
}

// paths returns all ways to types from a type: fields, keys and parts of pairs.
func paths(t api.Type) [][]string {
	all := [][]string{nil}
	under := func(way string, part api.Lattice) {
		for _, path := range paths(of(part)) {
			all = append(all, append([]string{way}, path...))
		}
	}
	switch t.Lattice.Kind {
	case api.Product:
		for i, field := range t.Lattice.Names {
			under(field, t.Lattice.Parts[i])
		}
	case api.Lex:
		under("<", t.Lattice.Parts[0])
		under(">", t.Lattice.Parts[1])
	case api.Map:
		under("[", t.Lattice.Parts[0])
	}
	return all
}

// behind returns the type at the end of one step of a path.
func behind(t api.Type, way string) api.Type {
	switch {
	case way == "[" || way == "<":
		return of(t.Lattice.Parts[0])
	case way == ">":
		return of(t.Lattice.Parts[1])
	}
	return of(t.Lattice.Parts[slices.Index(t.Lattice.Names, way)])
}

// end returns the type at the end of a path.
func end(t api.Type, path []string) api.Type {
	for _, way := range path {
		t = behind(t, way)
	}
	return t
}

// readable returns the types of which there are expressions that are not open.
func (m *maker) readable() []api.Type {
	list := []api.Type{of(api.Lattice{Kind: api.Register})}
	for _, path := range paths(of(m.l)) {
		list = append(list, end(of(m.l), path))
	}
	return list
}

// selected makes an expression for a path from the state. The last node is returned without its offset.
func (m *maker) selected(path []string, d int) made {
	if len(path) == 0 {
		return made{api.Node{Kind: api.NodeState}, api.Expr{Op: api.XState}}
	}
	last := path[len(path)-1]
	at := m.offset()
	t := end(of(m.l), path[:len(path)-1])
	m.steps = append(m.steps, step{at: at, t: t})
	x := m.selected(path[:len(path)-1], d)
	x.n.At, x.e.At, x.e.Type = at, at, t
	switch last {
	case "<":
		return compose(api.NodeCall, "first", api.XFirst, x)
	case ">":
		return compose(api.NodeCall, "second", api.XSecond, x)
	case "[":
		return compose(api.NodeIndex, "", api.XAt, x, m.make(name, sure, d))
	}
	y := compose(api.NodeField, last, api.XField, x)
	y.e.N = int64(slices.Index(t.Lattice.Names, last))
	return y
}

// elements makes an expression of elements of a lattice.
func (m *maker) elements(t api.Type, how, depth int) made {
	d := depth - 1
	if depth > 0 && m.source.Intn(4) == 0 {
		return m.choice(t, how, d)
	}
	if depth > 0 && m.source.Intn(3) == 0 {
		if how == unknown {
			return compose(api.NodeJoin, "", api.XJoin, m.two(t, d)...)
		}
		how = max(how, sure) // both operands are elaborated with the type
		return compose(api.NodeJoin, "", api.XJoin, m.make(t, how, d), m.make(t, how, d))
	}
	if how == unknown || how != opened && m.source.Intn(2) == 0 {
		if x, ok := m.read(t, d); ok {
			return x
		}
	}
	if depth <= 0 || m.source.Intn(5) == 0 {
		return made{api.Node{Kind: api.NodeBottom}, api.Expr{Op: api.XBottom}}
	}
	return m.built(t, d)
}

// read makes an expression of elements that is not open, if there is one.
func (m *maker) read(t api.Type, d int) (made, bool) {
	var found [][]string
	for _, path := range paths(of(m.l)) {
		if lattice.Equal(end(of(m.l), path).Lattice, t.Lattice) {
			found = append(found, path)
		}
	}
	register := of(api.Lattice{Kind: api.Register})
	if t.Lattice.Kind == api.Register && (len(found) == 0 || m.source.Intn(2) == 0) {
		return compose(api.NodeCall, "write", api.XWrite, m.make(register, sure, d), m.make(number, sure, d), m.make(name, sure, d)), true
	}
	if len(found) == 0 {
		return made{}, false
	}
	return m.selected(one(m, found...), d), true
}

// built makes a call that makes elements.
func (m *maker) built(t api.Type, d int) made {
	part := func(i int) api.Type { return of(t.Lattice.Parts[i]) }
	switch t.Lattice.Kind {
	case api.Flag:
		return compose(api.NodeCall, "flag", api.XFlag, m.make(truth, sure, d))
	case api.Max, api.Min:
		return compose(api.NodeCall, "num", api.XNum, m.make(number, sure, d))
	case api.Flat:
		return compose(api.NodeCall, "one", api.XOne, m.make(name, sure, d))
	case api.Lex:
		return compose(api.NodeCall, "pair", api.XPair, m.make(part(0), sure, d), m.make(part(1), sure, d))
	case api.Set, api.Closed:
		x := compose(api.NodeCall, "set", api.XSet)
		for range m.source.Intn(4) {
			kid := m.make(one(m, name, names), unknown, d)
			x.n.Kids, x.e.Kids = append(x.n.Kids, kid.n), append(x.e.Kids, kid.e)
		}
		return x
	case api.Map:
		x := compose(api.NodeCall, "map", api.XMap)
		for range m.source.Intn(3) {
			key, value := m.make(name, sure, d), m.make(part(0), sure, d)
			x.n.Kids = append(x.n.Kids, api.Node{Kind: api.NodeEntry, At: m.offset(), Kids: []api.Node{key.n, value.n}})
			x.e.Kids = append(x.e.Kids, key.e, value.e)
		}
		return x
	case api.Product:
		x := compose(api.NodeCall, "rec", api.XRec)
		for i := range t.Lattice.Parts {
			x.e.Kids = append(x.e.Kids, api.Expr{Op: api.XBottom, Type: part(i), At: omitted})
		}
		order := m.source.Perm(len(t.Lattice.Parts))
		for _, i := range order[:m.source.Intn(len(order)+1)] {
			value := m.make(part(i), sure, d)
			x.n.Kids = append(x.n.Kids, api.Node{Kind: api.NodeEntry, Text: t.Lattice.Names[i], At: m.offset(), Kids: []api.Node{value.n}})
			x.e.Kids[i] = value.e
		}
		return x
	}
	return made{api.Node{Kind: api.NodeBottom}, api.Expr{Op: api.XBottom}}
}

// reading makes a call of a function that reads a value, if there are values for it.
func (m *maker) reading(function string, d int) (made, bool) {
	ops := map[string]int{"size": api.XSize, "sum": api.XSum, "number": api.XNumber, "on": api.XOn, "keys": api.XKeys, "values": api.XValues, "conflict": api.XConflict}
	var found []api.Type
	for _, t := range append(m.readable(), names) {
		if reads(function, t) {
			found = append(found, t)
		}
	}
	if len(found) == 0 {
		return made{}, false
	}
	return compose(api.NodeCall, function, ops[function], m.make(one(m, found...), unknown, d)), true
}

// reads reports whether a function reads values of a type.
func reads(function string, t api.Type) bool {
	kinds := map[string][]int{
		"size": {api.Set, api.Map, api.Register, api.Closed}, "sum": {api.Map}, "number": {api.Max, api.Min}, "on": {api.Flag}, "keys": {api.Map, api.Set, api.Closed}, "values": {api.Flat, api.Register}, "conflict": {api.Flat, api.Register}, "first": {api.Lex}, "second": {api.Lex},
	}[function]
	if t.Sort != 0 {
		return function == "size" && t.Sort == api.SortNames
	}
	if function == "sum" && t.Lattice.Kind == api.Map {
		return t.Lattice.Parts[0].Kind == api.Max || t.Lattice.Parts[0].Kind == api.Min
	}
	return function != "sum" && slices.Contains(kinds, t.Lattice.Kind)
}

// text returns all fields of a result as a text. Nil and empty slices have the same text.
func text(x any) string { return fmt.Sprintf("%+v", x) }
