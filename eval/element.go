package eval

import (
	"maps"
	"slices"

	"plexus/api"
	"plexus/closure"
	"plexus/join"
	"plexus/names"
	"plexus/register"
	"plexus/value"
)

// The numbers of the elements of a Flat that are used here.
const (
	flatName = 1
	flatTop  = 2
)

// element evaluates an expression whose type is that of the elements of a lattice.
func element(x *api.Expr, kid kids) api.Value {
	l := &x.Type.Lattice
	switch x.Op {
	case api.XJoin:
		v, _ := join.Join(*l, kid(0).value, kid(1).value)
		return v
	case api.XField:
		return kid(0).value.Parts[x.N]
	case api.XFirst:
		return kid(0).value.Parts[0]
	case api.XSecond:
		return kid(0).value.Parts[1]
	case api.XAt:
		return valueAt(l, kid(0).value, kid(1).datum.Name)
	case api.XFlag:
		return api.Value{N: kid(0).datum.N}
	case api.XNum:
		return api.Value{N: min(max(kid(0).datum.N, l.Lo), l.Hi)}
	case api.XSet:
		return set(l, len(x.Kids), kid)
	case api.XMap:
		return entries(l, len(x.Kids), kid)
	case api.XRec, api.XPair:
		return parts(len(x.Kids), kid)
	case api.XOne:
		return one(l, kid(0).datum.Name)
	case api.XWrite:
		return write(kid(0).value, kid(1).datum.N, kid(2).datum.Name)
	}
	return bottom(l)
}

// bottom returns the least element of a lattice.
func bottom(l *api.Lattice) api.Value {
	v, _ := value.Bottom(*l)
	return v
}

// valueAt returns the value of a key in a map whose values are elements of l.
func valueAt(l *api.Lattice, m api.Value, key string) api.Value {
	at, found := slices.BinarySearch(m.Names, key)
	if !found {
		return bottom(l)
	}
	return m.Parts[at]
}

// allows reports whether a Set, Map, Flat or Closed allows a name.
func allows(l *api.Lattice, name string) bool {
	return len(l.Names) == 0 || names.Has(l.Names, name)
}

// set returns the least element of a Set or a Closed with all the names in its kids that are allowed.
func set(l *api.Lattice, count int, kid kids) api.Value {
	var list []string
	add := func(name string) {
		if allows(l, name) {
			list = append(list, name)
		}
	}
	for i := range count {
		d := kid(i).datum
		if d.Sort == api.SortName {
			add(d.Name)
		}
		for _, name := range d.Names {
			add(name)
		}
	}
	list = names.Of(list)
	if l.Kind == api.Closed {
		list, _ = closure.Close(l.Names, l.Rules, list)
	}
	return api.Value{Names: list}
}

// entries returns the map of the keys among its kids to the joins of the values behind them.
func entries(l *api.Lattice, count int, kid kids) api.Value {
	part := l.Parts[0]
	values := map[string][]api.Value{}
	for i := 0; i < count; i += 2 {
		if key := kid(i).datum.Name; allows(l, key) {
			values[key] = append(values[key], kid(i+1).value)
		}
	}
	var m api.Value
	for _, key := range slices.Sorted(maps.Keys(values)) {
		v, _ := join.JoinAll(part, values[key])
		if !value.IsBottom(part, v) {
			m.Names, m.Parts = append(m.Names, key), append(m.Parts, v)
		}
	}
	return m
}

// parts returns the product or the pair of its kids.
func parts(count int, kid kids) api.Value {
	var v api.Value
	for i := range count {
		v.Parts = append(v.Parts, kid(i).value)
	}
	return v
}

// one returns a name as an element of a Flat, or its bottom if the name is not allowed.
func one(l *api.Lattice, name string) api.Value {
	if !allows(l, name) {
		return bottom(l)
	}
	return api.Value{N: flatName, Names: []string{name}}
}

// write returns what a process writes over a register.
func write(v api.Value, process int64, name string) api.Value {
	p := min(max(process, 0), api.MaxProcess)
	w, e := register.Write(v, int(p), name)
	if e == api.OK {
		return w
	}
	// The number of the process cannot grow any more, so the name stands beside all that is not below it.
	last := api.Entry{Clock: register.Clock(v), Name: name}
	w, _ = join.Join(api.Lattice{Kind: api.Register}, v, api.Value{Entries: []api.Entry{last}})
	return w
}
