package types

import (
	"slices"

	"plexus/api"
)

// elaborator elaborates expressions on one object. Its functions write the elaboration of a tree t into e, and types are passed on by pointers: values would fill the stack where trees are deep. A type that is nil is not expected. Behind the first fault what they write is not used, so they need not look after each part whether there was one.
type elaborator struct {
	faults
	object api.Type
	params []api.Param
	data   [api.SortNames + 1]api.Type // the types of data by their sorts
}

// elaborate returns the elaboration of an expression, or the first fault. The types in it share memory with one another and with the arguments.
func elaborate(l api.Lattice, params []api.Param, want *api.Type, n api.Node) (api.Expr, api.Fault) {
	c := elaborator{object: api.Type{Lattice: l}, params: params}
	for sort := range c.data {
		c.data[sort].Sort = sort
	}
	t := mark(n)
	var e api.Expr
	c.expression(&t, want, &e)
	if c.failed() {
		return api.Expr{}, c.fault
	}
	return e, api.Fault{}
}

// expression elaborates an expression.
func (c *elaborator) expression(t *tree, want *api.Type, e *api.Expr) {
	if c.failed() {
		return
	}
	e.Op, e.At = operationOf(t.Kind, t.Text), t.At
	if len(t.kids) > 0 {
		e.Kids = make([]api.Expr, len(t.kids))
	}
	c.parts(t, want, e)
	c.require(want == nil || same(want, &e.Type), t)
}

// parts elaborates all of an expression but its operation and its offset.
func (c *elaborator) parts(t *tree, want *api.Type, e *api.Expr) {
	number, truth, name := &c.data[api.SortInt], &c.data[api.SortBool], &c.data[api.SortName]
	switch t.Kind {
	case api.NodeInt:
		c.integer(t, e)
	case api.NodeTrue:
		e.Type, e.N = *truth, 1
	case api.NodeFalse:
		e.Type = *truth
	case api.NodeQuote:
		e.Type, e.Text = *name, t.Text
	case api.NodeName:
		c.param(t, e)
	case api.NodeState:
		e.Type = c.object
	case api.NodeBottom:
		c.take(want, t, e)
	case api.NodeIf:
		c.choice(t, want, e)
	case api.NodeOr, api.NodeAnd, api.NodeNot:
		c.operands(t, e, truth, truth, truth)
	case api.NodeLessEq, api.NodeLess:
		c.operands(t, e, truth, number, number)
	case api.NodePlus, api.NodeMinus:
		c.operands(t, e, number, number, number)
	case api.NodeIn:
		c.operands(t, e, truth, name, &c.data[api.SortNames])
	case api.NodeEqual:
		c.equal(t, e)
	case api.NodeLeq:
		e.Type = *truth
		c.together(t, e, 0, true)
	case api.NodeJoin:
		c.join(t, want, e)
	case api.NodeField:
		c.field(t, e)
	case api.NodeIndex:
		c.index(t, e)
	case api.NodeCall:
		c.call(t, want, e)
	}
}

// require fails with ErrType at an expression unless a condition holds.
func (c *elaborator) require(holds bool, t *tree) {
	if !holds {
		c.fail(api.ErrType, t.At)
	}
}

// take gives an expression the type that is expected, which has to be that of a lattice.
func (c *elaborator) take(want *api.Type, t *tree, e *api.Expr) {
	c.require(isElement(want), t)
	if want != nil {
		e.Type = *want
	}
}

// operands elaborates kids of the given types; there may be more types than kids. The expression has the type result.
func (c *elaborator) operands(t *tree, e *api.Expr, result *api.Type, wants ...*api.Type) {
	e.Type = *result
	for i := range t.kids {
		c.expression(&t.kids[i], wants[i], &e.Kids[i])
	}
}

// together elaborates two kids that have the same type, the first of which has the index i. The type is that of the first one that is not open.
func (c *elaborator) together(t *tree, e *api.Expr, i int, elements bool) {
	j := i + 1
	if t.kids[i].open {
		i, j = j, i
	}
	c.require(!t.kids[i].open, t)
	c.expression(&t.kids[i], nil, &e.Kids[i])
	c.require(!elements || isElement(&e.Kids[i].Type), &t.kids[i])
	c.expression(&t.kids[j], &e.Kids[i].Type, &e.Kids[j])
}

// integer elaborates an integer.
func (c *elaborator) integer(t *tree, e *api.Expr) {
	// The parser lets no other integer through, but trees and elaborations have other sources, too.
	if t.N < -api.MaxNumber || t.N > api.MaxNumber {
		c.fail(api.ErrRange, t.At)
	}
	e.Type, e.N = c.data[api.SortInt], t.N
}

// param elaborates the name of a parameter.
func (c *elaborator) param(t *tree, e *api.Expr) {
	i := slices.IndexFunc(c.params, func(p api.Param) bool { return p.Name == t.Text })
	if i < 0 {
		c.fail(api.ErrName, t.At)
		return
	}
	e.Type.Sort, e.N = c.params[i].Sort, int64(i)
}

// choice elaborates an if.
func (c *elaborator) choice(t *tree, want *api.Type, e *api.Expr) {
	c.expression(&t.kids[0], &c.data[api.SortBool], &e.Kids[0])
	if want == nil {
		c.together(t, e, 1, false)
	} else {
		c.expression(&t.kids[1], want, &e.Kids[1])
		c.expression(&t.kids[2], want, &e.Kids[2])
	}
	e.Type = e.Kids[1].Type
}

// equal elaborates a comparison of data.
func (c *elaborator) equal(t *tree, e *api.Expr) {
	e.Type = c.data[api.SortBool]
	c.expression(&t.kids[0], nil, &e.Kids[0])
	c.require(!isElement(&e.Kids[0].Type), &t.kids[0])
	c.expression(&t.kids[1], &e.Kids[0].Type, &e.Kids[1])
}

// join elaborates a join.
func (c *elaborator) join(t *tree, want *api.Type, e *api.Expr) {
	if want == nil {
		c.together(t, e, 0, true)
		e.Type = e.Kids[0].Type
		return
	}
	c.take(want, t, e)
	c.operands(t, e, want, want, want)
}

// field elaborates a field of a product.
func (c *elaborator) field(t *tree, e *api.Expr) {
	record := c.operand(t, e)
	c.require(isOne(record, api.Product), t)
	i := slices.Index(record.Lattice.Names, t.Text)
	if i < 0 {
		c.fail(api.ErrName, t.At)
	}
	if !c.failed() {
		e.Type, e.N = *part(record, i), int64(i)
	}
}

// index elaborates the value of a key of a map.
func (c *elaborator) index(t *tree, e *api.Expr) {
	entries := c.operand(t, e)
	c.require(isOne(entries, api.Map), t)
	c.expression(&t.kids[1], &c.data[api.SortName], &e.Kids[1])
	if !c.failed() {
		e.Type = *part(entries, 0)
	}
}

// operand elaborates the first kid, of which nothing is expected, and returns its type.
func (c *elaborator) operand(t *tree, e *api.Expr) *api.Type {
	c.expression(&t.kids[0], nil, &e.Kids[0])
	return &e.Kids[0].Type
}
