package types_test

import (
	"fmt"

	"plexus/api"
	"plexus/sample"
)

// The types of data.
var (
	number = sample.Sort(api.SortInt)
	truth  = sample.Sort(api.SortBool)
	name   = sample.Sort(api.SortName)
	names  = sample.Sort(api.SortNames)
)

// of returns the type of the elements of a lattice.
func of(l api.Lattice) api.Type { return sample.Of(l) }

// one returns an element of a list.
func one[T any](m *sample.Maker, list ...T) T { return list[m.Intn(len(list))] }

// text returns all fields of a result as a text. Nil and empty slices have the same text.
func text(x any) string { return fmt.Sprintf("%+v", x) }
