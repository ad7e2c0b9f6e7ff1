package decide

import (
	"slices"

	"plexus/api"
	"plexus/eval"
	"plexus/finite"
	"plexus/join"
	"plexus/types"
	"plexus/value"
)

// space is a finite lattice with its states by their indices.
type space struct {
	lattice api.Lattice
	states  []api.Value
}

// newSpace returns the space of a description, or the error of one that package finite does not support.
func newSpace(l api.Lattice) (space, api.Errno) {
	list, e := finite.Values(l)
	return space{lattice: l, states: list}, e
}

// leq reports whether the state with the index i is below or equal to the one with the index j.
func (s space) leq(i, j int) bool {
	return join.Leq(s.lattice, s.states[i], s.states[j])
}

// check returns the error of a call of a function.
func (s space) check(f api.Function, args []api.Datum) api.Errno {
	if !types.Valid(s.lattice, f) {
		return api.ErrArgument
	}
	return eval.Arguments(f.Params, args)
}

// image returns the indices of the new states of all states, or the error of the call.
func (s space) image(f api.Function, args []api.Datum) ([]int, api.Errno) {
	if f.Result != 0 {
		return nil, api.ErrArgument
	}
	if e := s.check(f, args); e != api.OK {
		return nil, e
	}
	list := make([]int, len(s.states))
	for i, state := range s.states {
		v, _ := eval.Value(f.Body, state, args)
		list[i], _ = slices.BinarySearchFunc(s.states, v, value.Compare)
	}
	return list, api.OK
}

// results returns the results of a query in all states, or the error of the call.
func (s space) results(f api.Function, args []api.Datum) ([]api.Datum, api.Errno) {
	if f.Result == 0 {
		return nil, api.ErrArgument
	}
	if e := s.check(f, args); e != api.OK {
		return nil, e
	}
	list := make([]api.Datum, len(s.states))
	for i, state := range s.states {
		list[i], _ = eval.Datum(f.Body, state, args)
	}
	return list, api.OK
}
