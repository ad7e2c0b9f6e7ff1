package eval

import (
	"slices"

	"plexus/api"
	"plexus/names"
)

// checkArgument returns the error of an argument for a parameter of a sort.
func checkArgument(sort int, d api.Datum) api.Errno {
	if d.Sort != sort || !hasNoOtherFields(d) {
		return api.ErrType
	}
	switch sort {
	case api.SortInt:
		if d.N < -api.MaxNumber || d.N > api.MaxNumber {
			return api.ErrRange
		}
	case api.SortBool:
		if d.N != 0 && d.N != 1 {
			return api.ErrRange
		}
	case api.SortName:
		if !names.Valid(d.Name) {
			return api.ErrName
		}
	case api.SortNames:
		isNone := func(s string) bool { return !names.Valid(s) }
		if !names.Sorted(d.Names) || slices.ContainsFunc(d.Names, isNone) {
			return api.ErrName
		}
	}
	return api.OK
}

// hasNoOtherFields reports whether d has one of the four sorts, and the fields that its sort does not use are zero.
func hasNoOtherFields(d api.Datum) bool {
	switch d.Sort {
	case api.SortInt, api.SortBool:
		d.N = 0
	case api.SortName:
		d.Name = ""
	case api.SortNames:
		d.Names = nil
	default:
		return false
	}
	return d.N == 0 && d.Name == "" && len(d.Names) == 0
}
