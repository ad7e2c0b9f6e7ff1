package eval_test

import (
	"math/big"
	"slices"

	"plexus/api"
	"plexus/join"
)

// reference evaluates expressions row by row, all kids first. Its results are an int64, a bool, a string, a map with the names of a set, or a value.
type reference struct {
	s    api.Value
	args []api.Datum
}

// of returns the result of an expression.
func (r reference) of(x api.Expr) any {
	var kids []any
	for _, kid := range x.Kids {
		kids = append(kids, r.of(kid))
	}
	if x.Type.Sort != 0 {
		return r.data(x, kids)
	}
	return r.element(x, kids)
}

// data returns the result of an expression of a sort.
func (r reference) data(x api.Expr, kids []any) any {
	n := func(i int) int64 { return kids[i].(int64) }
	is := func(i int) bool { return kids[i].(bool) }
	v := func(i int) api.Value { return kids[i].(api.Value) }
	switch x.Op {
	case api.XInt:
		return x.N
	case api.XBool:
		return x.N == 1
	case api.XName:
		return x.Text
	case api.XParam:
		return plain(r.args[x.N])
	case api.XIf:
		return map[bool]any{true: kids[1], false: kids[2]}[is(0)]
	case api.XOr:
		return is(0) || is(1)
	case api.XAnd:
		return is(0) && is(1)
	case api.XNot:
		return !is(0)
	case api.XLessEq:
		return !(n(1) < n(0))
	case api.XLess:
		return n(0) < n(1)
	case api.XEqual:
		return text(kids[0]) == text(kids[1])
	case api.XIn:
		return kids[1].(map[string]bool)[kids[0].(string)]
	case api.XLeq:
		// a <= b exactly if their join is b.
		both, _ := join.Join(x.Kids[1].Type.Lattice, v(0), v(1))
		return text(both) == text(v(1))
	case api.XPlus:
		return limited(n(0), n(1))
	case api.XMinus:
		return limited(n(0), -n(1))
	case api.XSize:
		return extent(kids[0])
	case api.XSum:
		var total int64
		for _, part := range v(0).Parts {
			total = limited(total, part.N)
		}
		return total
	case api.XNumber:
		return v(0).N
	case api.XOn:
		return v(0).N != 0
	case api.XKeys:
		return membersOf(v(0).Names)
	case api.XValues:
		list := v(0).Names
		for _, e := range v(0).Entries {
			list = append(list, e.Name)
		}
		return membersOf(list)
	case api.XConflict:
		return v(0).N == 2 || slices.ContainsFunc(v(0).Entries, func(e api.Entry) bool { return e.Name != v(0).Entries[0].Name })
	}
	return nil
}

// element returns the result of an expression of elements of a lattice.
func (r reference) element(x api.Expr, kids []any) api.Value {
	l := x.Type.Lattice
	v := func(i int) api.Value { return kids[i].(api.Value) }
	switch x.Op {
	case api.XState:
		return r.s
	case api.XBottom:
		return lowest(l)
	case api.XIf:
		if kids[0].(bool) {
			return v(1)
		}
		return v(2)
	case api.XJoin:
		both, _ := join.Join(l, v(1), v(0))
		return both
	case api.XField:
		return v(0).Parts[x.N]
	case api.XFirst:
		return v(0).Parts[0]
	case api.XSecond:
		return v(0).Parts[1]
	case api.XAt:
		for i, key := range v(0).Names {
			if key == kids[1].(string) {
				return v(0).Parts[i]
			}
		}
		return lowest(l)
	case api.XFlag:
		return map[bool]api.Value{true: {N: 1}, false: {}}[kids[0].(bool)]
	case api.XNum:
		n := kids[0].(int64)
		if n < l.Lo {
			n = l.Lo
		}
		if n > l.Hi {
			n = l.Hi
		}
		return api.Value{N: n}
	case api.XRec, api.XPair:
		var all api.Value
		for i := range kids {
			all.Parts = append(all.Parts, v(i))
		}
		return all
	case api.XOne:
		if s := kids[0].(string); len(l.Names) == 0 || slices.Contains(l.Names, s) {
			return api.Value{N: 1, Names: []string{s}}
		}
		return api.Value{}
	case api.XSet:
		return united(l, kids)
	case api.XMap:
		return keyed(l, kids)
	}
	return overwritten(v(0), kids[1].(int64), kids[2].(string))
}

// plain returns a datum as a result.
func plain(d api.Datum) any {
	switch d.Sort {
	case api.SortInt:
		return d.N
	case api.SortBool:
		return d.N == 1
	case api.SortName:
		return d.Name
	}
	return membersOf(d.Names)
}

// membersOf returns a set of names.
func membersOf(list []string) map[string]bool {
	set := map[string]bool{}
	for _, s := range list {
		set[s] = true
	}
	return set
}

// limited returns the saturated sum of two numbers.
func limited(a, b int64) int64 {
	sum, most := new(big.Int).Add(big.NewInt(a), big.NewInt(b)), big.NewInt(api.MaxNumber)
	switch {
	case sum.Cmp(most) > 0:
		return api.MaxNumber
	case sum.CmpAbs(most) > 0:
		return -api.MaxNumber
	}
	return sum.Int64()
}

// extent returns the size of a set of names or of a value.
func extent(x any) int64 {
	if set, ok := x.(map[string]bool); ok {
		return int64(len(set))
	}
	v := x.(api.Value)
	return int64(max(len(v.Names), len(v.Entries)))
}

// lowest returns the bottom of a lattice.
func lowest(l api.Lattice) api.Value {
	v, _ := join.JoinAll(l, nil)
	return v
}

// united returns the result of XSet.
func united(l api.Lattice, kids []any) api.Value {
	set := map[string]bool{}
	for _, kid := range kids {
		if s, ok := kid.(string); ok {
			set[s] = true
			continue
		}
		for s := range kid.(map[string]bool) {
			set[s] = true
		}
	}
	for s := range set {
		if len(l.Names) > 0 && !slices.Contains(l.Names, s) {
			delete(set, s)
		}
	}
	// Each round through the rules adds a name, or is the last one.
	for range l.Names {
		for _, r := range l.Rules {
			if !slices.ContainsFunc(r.If, func(s string) bool { return !set[s] }) {
				set[r.Then] = true
			}
		}
	}
	return api.Value{Names: listed(set)}
}

// listed returns the names of a set, sorted.
func listed(set map[string]bool) []string {
	var list []string
	for s := range set {
		list = append(list, s)
	}
	slices.Sort(list)
	return list
}

// keyed returns the result of XMap.
func keyed(l api.Lattice, kids []any) api.Value {
	all := map[string]api.Value{}
	keys := map[string]bool{}
	for i := 0; i < len(kids); i += 2 {
		key, v := kids[i].(string), kids[i+1].(api.Value)
		if before, ok := all[key]; ok {
			v, _ = join.Join(l.Parts[0], before, v)
		}
		all[key] = v
		keys[key] = (len(l.Names) == 0 || slices.Contains(l.Names, key)) && text(v) != text(lowest(l.Parts[0]))
	}
	var m api.Value
	for _, key := range listed(keys) {
		if keys[key] {
			m.Names, m.Parts = append(m.Names, key), append(m.Parts, all[key])
		}
	}
	return m
}

// overwritten returns the result of XWrite, for registers whose numbers are below the greatest one.
func overwritten(v api.Value, process int64, name string) api.Value {
	var numbers [api.MaxProcess + 1]int64
	for _, e := range v.Entries {
		for _, t := range e.Clock {
			numbers[t.Process] = max(numbers[t.Process], t.N)
		}
	}
	switch {
	case process < 0:
		numbers[0]++
	case process > api.MaxProcess:
		numbers[api.MaxProcess]++
	default:
		numbers[process]++
	}
	e := api.Entry{Name: name}
	for p, n := range numbers {
		if n > 0 {
			e.Clock = append(e.Clock, api.Tick{Process: p, N: n})
		}
	}
	return api.Value{Entries: []api.Entry{e}}
}
