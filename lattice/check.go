package lattice

import (
	"slices"

	"plexus/api"
	"plexus/names"
)

// The limits of a valid description.
const (
	maxDepth  = 6
	maxNodes  = 64
	maxFields = 8  // names of a Product
	maxClosed = 12 // names of a Closed
	maxNames  = 32 // names of any other node
	maxRules  = 32
	maxBound  = 1000000000 // of Lo and Hi, and of their negatives
)

// Check reports whether l is a valid description: OK, or the first error.
func Check(l api.Lattice) api.Errno {
	count := 0
	var check func(l api.Lattice, depth int) api.Errno
	check = func(l api.Lattice, depth int) api.Errno {
		if depth > maxDepth || count == maxNodes {
			return api.ErrLimit
		}
		count++
		if e := checkNode(l); e != api.OK {
			return e
		}
		for _, part := range l.Parts {
			if e := check(part, depth+1); e != api.OK {
				return e
			}
		}
		return api.OK
	}
	return check(l, 1)
}

// checkNode returns the first error of a node, without those of its place and of its parts.
func checkNode(l api.Lattice) api.Errno {
	switch {
	case !hasItsFields(l):
		return api.ErrArgument
	case len(l.Names) > nameLimit(l.Kind) || len(l.Rules) > maxRules:
		return api.ErrLimit
	case !isNamed(l) || !areRules(l.Names, l.Rules):
		return api.ErrName
	case l.Lo > l.Hi || l.Lo < -maxBound || l.Hi > maxBound:
		return api.ErrRange
	case l.Kind == api.Lex && !Chain(l.Parts[0]):
		return api.ErrType
	}
	return api.OK
}

// hasItsFields reports whether a node has the fields that its kind needs, and no others.
func hasItsFields(l api.Lattice) bool {
	parts := 0
	switch l.Kind {
	case api.Flag, api.Register, api.Set, api.Flat:
	case api.Max, api.Min:
		l.Lo, l.Hi = 0, 0
	case api.Map:
		parts = 1
	case api.Product:
		parts = len(l.Names)
	case api.Lex:
		parts = 2
	case api.Closed:
		l.Rules = nil
	default:
		return false
	}
	return l.Lo == 0 && l.Hi == 0 && len(l.Rules) == 0 && len(l.Parts) == parts && hasItsNames(l)
}

// hasItsNames reports whether a node has names if its kind needs some, and none if its kind does not use them.
func hasItsNames(l api.Lattice) bool {
	switch l.Kind {
	case api.Set, api.Flat, api.Map:
		return true
	case api.Product, api.Closed:
		return len(l.Names) > 0
	}
	return len(l.Names) == 0
}

// nameLimit returns how many names a node of a kind can have.
func nameLimit(kind int) int {
	switch kind {
	case api.Product:
		return maxFields
	case api.Closed:
		return maxClosed
	}
	return maxNames
}

// isNamed reports whether the names of a node are names, and different in a Product and strictly increasing in all other kinds.
func isNamed(l api.Lattice) bool {
	seen := map[string]bool{}
	for _, s := range l.Names {
		if !names.Valid(s) || seen[s] {
			return false
		}
		seen[s] = true
	}
	return l.Kind == api.Product || names.Sorted(l.Names)
}

// areRules reports whether rules are rules over a list of names.
func areRules(list []string, rules []api.Rule) bool {
	allowed := map[string]bool{}
	for _, s := range list {
		allowed[s] = true
	}
	ok := true
search:
	for _, r := range rules {
		if len(r.If) == 0 || !names.Sorted(r.If) {
			ok = false
			break
		}
		for _, s := range slices.Concat(r.If, []string{r.Then}) {
			if !allowed[s] {
				ok = false
				break search
			}
		}
	}
	return ok
}
