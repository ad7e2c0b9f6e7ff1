package decide

import "plexus/api"

// decideUpdate returns the answer to a question about an update, or the error of the call. The image is computed once.
func decideUpdate(l api.Lattice, f api.Function, args []api.Datum, answer func(s space, image []int) Answer) (Answer, api.Errno) {
	s, e := newSpace(l)
	if e != api.OK {
		return Answer{}, e
	}
	image, e := s.image(f, args)
	if e != api.OK {
		return Answer{}, e
	}
	return answer(s, image), api.OK
}

// keepsOrder answers whether greater states have greater results, in the order of the results.
func keepsOrder[R any](s space, results []R, inOrder func(a, b R) bool) Answer {
	return searchPairs(results, func(i, j int, a, b R) bool { return inOrder(a, b) || !s.leq(i, j) })
}

// search answers whether a property holds for all states, each with its result. The counterexample is the least state for which it does not.
func search[R any](results []R, holds func(i int, r R) bool) Answer {
	for i, r := range results {
		if !holds(i, r) {
			return Answer{I: i}
		}
	}
	return Answer{Holds: true}
}

// searchPairs answers in the same way whether a property holds for all pairs of states.
func searchPairs[R any](results []R, holds func(i, j int, a, b R) bool) Answer {
	var second Answer
	first := search(results, func(i int, a R) bool {
		second = search(results, func(j int, b R) bool { return holds(i, j, a, b) })
		return second.Holds
	})
	first.J = second.I
	return first
}
