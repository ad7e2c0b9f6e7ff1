package decide

import (
	"plexus/api"
	"plexus/names"
)

// Below reports whether a is at most b in the order of results.
func Below(a, b api.Datum) bool {
	if a.Sort != b.Sort {
		return false
	}
	switch a.Sort {
	case api.SortInt, api.SortBool:
		return a.N <= b.N
	case api.SortName:
		return a.Name == b.Name
	case api.SortNames:
		return names.Subset(a.Names, b.Names)
	}
	return false
}
