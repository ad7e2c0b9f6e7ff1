package types

import (
	"slices"

	"plexus/api"
)

// call elaborates a call.
func (c *elaborator) call(t *tree, want *api.Type, e *api.Expr) {
	if count, fixed := arguments(t.Text); fixed && len(t.kids) != count {
		c.fail(api.ErrArgument, t.At)
	}
	if t.open {
		c.require(isOne(want, makes(t.Text)...), t)
	}
	if c.failed() {
		return
	}
	number, name := &c.data[api.SortInt], &c.data[api.SortName]
	switch t.Text {
	case "flag":
		c.operands(t, e, want, &c.data[api.SortBool])
	case "num":
		c.operands(t, e, want, number)
	case "one":
		c.operands(t, e, want, name)
	case "pair":
		c.operands(t, e, want, part(want, 0), part(want, 1))
	case "set":
		c.set(t, want, e)
	case "map":
		c.entries(t, want, e)
	case "rec":
		c.record(t, want, e)
	case "write":
		register := &api.Type{Lattice: api.Lattice{Kind: api.Register}}
		c.operands(t, e, register, register, number, name)
	default:
		c.reading(t, e)
	}
}

// set elaborates a set of names and of the elements of sets.
func (c *elaborator) set(t *tree, want *api.Type, e *api.Expr) {
	e.Type = *want
	for i := range t.kids {
		kid := &e.Kids[i]
		c.expression(&t.kids[i], nil, kid)
		c.require(kid.Type.Sort == api.SortName || kid.Type.Sort == api.SortNames, &t.kids[i])
	}
}

// entries elaborates a map of keys to values.
func (c *elaborator) entries(t *tree, want *api.Type, e *api.Expr) {
	e.Type = *want
	value := part(want, 0)
	e.Kids = append(e.Kids, e.Kids...) // a key and a value for each entry
	for i, entry := range t.kids {
		c.expression(&entry.kids[0], &c.data[api.SortName], &e.Kids[2*i])
		c.expression(&entry.kids[1], value, &e.Kids[2*i+1])
	}
}

// record elaborates a product, of which the fields without an entry are bottom.
func (c *elaborator) record(t *tree, want *api.Type, e *api.Expr) {
	e.Type, e.Kids = *want, nil
	for i := range want.Lattice.Names {
		e.Kids = append(e.Kids, api.Expr{Op: api.XBottom, Type: *part(want, i), At: t.At})
	}
	seen := map[string]bool{}
	for _, entry := range t.kids {
		i := slices.Index(want.Lattice.Names, entry.Text)
		if i < 0 || seen[entry.Text] {
			c.fail(api.ErrName, entry.At)
			return
		}
		seen[entry.Text] = true
		c.expression(&entry.kids[0], part(want, i), &e.Kids[i])
	}
}

// reading elaborates a call of a function that reads a value of any type.
func (c *elaborator) reading(t *tree, e *api.Expr) {
	value := c.operand(t, e)
	is := func(kinds ...int) bool { return isOne(value, kinds...) }
	result, ok := &api.Type{}, false
	switch t.Text {
	case "size":
		result, ok = &c.data[api.SortInt], value.Sort == api.SortNames || is(api.Set, api.Map, api.Register, api.Closed)
	case "sum":
		result, ok = &c.data[api.SortInt], is(api.Map) && isOne(part(value, 0), api.Max, api.Min)
	case "number":
		result, ok = &c.data[api.SortInt], is(api.Max, api.Min)
	case "on":
		result, ok = &c.data[api.SortBool], is(api.Flag)
	case "keys":
		result, ok = &c.data[api.SortNames], is(api.Map, api.Set, api.Closed)
	case "values":
		result, ok = &c.data[api.SortNames], is(api.Flat, api.Register)
	case "conflict":
		result, ok = &c.data[api.SortBool], is(api.Flat, api.Register)
	case "first":
		result, ok = half(value, 0)
	case "second":
		result, ok = half(value, 1)
	}
	c.require(ok, t)
	if ok {
		e.Type = *result
	}
}

// half returns the type of a part of a pair, and whether t is the type of pairs.
func half(t *api.Type, i int) (*api.Type, bool) {
	if !isOne(t, api.Lex) {
		return nil, false
	}
	return part(t, i), true
}
