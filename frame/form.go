package frame

import (
	"math"

	"plexus/api"
)

// The fields of a message that only some kinds use.
const (
	fieldRound = iota
	fieldReads
	fieldBase
	fieldState
	fieldAcks
	fieldProof
	fieldDigests
	fieldObjects
	fieldSeq
	fieldItems
	fieldCount
)

// many is the greatest number of elements of a field that can have any number of them.
const many = math.MaxInt

// use is a field that a kind uses, with the least and the greatest number of its elements. A round or a number counts as one element if it is not zero.
type use struct{ field, least, most int }

// uses returns the fields that a kind uses, in the order of the payload; none if there is no such kind.
func uses(kind int) []use {
	switch kind {
	case api.MsgPropose:
		return []use{{fieldRound, 0, 1}, {fieldReads, 0, many}, {fieldBase, 1, 1}, {fieldState, 0, many}}
	case api.MsgReply:
		return []use{{fieldRound, 0, 1}, {fieldState, 0, many}, {fieldBase, 0, 1}, {fieldAcks, 0, 1}}
	case api.MsgLearned:
		return []use{{fieldProof, 1, 1}, {fieldState, 0, many}}
	case api.MsgDigests:
		return []use{{fieldDigests, 0, many}}
	case api.MsgFill:
		return []use{{fieldState, 0, many}}
	case api.MsgUpdate:
		return []use{{fieldState, 1, 1}}
	case api.MsgRead:
		return []use{{fieldReads, 1, 1}, {fieldObjects, 0, many}}
	case api.MsgResult:
		return []use{{fieldProof, 1, 1}, {fieldReads, 0, 1}, {fieldSeq, 0, 1}, {fieldItems, 0, many}}
	}
	return nil
}

// hasForm reports whether m has the form of a message, whatever the length of its frame is.
func hasForm(m api.Message) bool {
	used := uses(m.Kind)
	if used == nil || !isProcess(m.From) || !isProcess(m.To) {
		return false
	}
fields:
	for field, n := range elements(m) {
		for _, u := range used {
			if u.field == field {
				if n < u.least || n > u.most {
					return false
				}
				continue fields
			}
		}
		if n != 0 {
			return false
		}
	}
	return m.Kind != api.MsgResult || ofReadOrUpdate(m)
}

// ofReadOrUpdate reports whether a result has either a read or the number of an update.
func ofReadOrUpdate(m api.Message) bool {
	if len(m.Reads) == 1 {
		return m.Seq == 0
	}
	return m.Seq >= 1
}

// isProcess reports whether n is the number of a process.
func isProcess(n int) bool { return n >= 0 && n <= api.MaxProcess }

// elements returns the number of elements of each field.
func elements(m api.Message) [fieldCount]int {
	return [fieldCount]int{
		fieldRound:   present(m.Round != api.Round{}),
		fieldReads:   len(m.Reads),
		fieldBase:    len(m.Base),
		fieldState:   len(m.State),
		fieldAcks:    len(m.Acks),
		fieldProof:   len(m.Proof),
		fieldDigests: len(m.Digests),
		fieldObjects: len(m.Objects),
		fieldSeq:     present(m.Seq != 0),
		fieldItems:   len(m.Items),
	}
}

// present returns 1 for a field that is not zero.
func present(is bool) int {
	if is {
		return 1
	}
	return 0
}
