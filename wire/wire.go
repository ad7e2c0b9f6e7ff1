// Package wire is layer 1: the canonical encoding of numbers, booleans, strings and byte strings. See shared/doc/01-wire.md.
package wire

// A number is written in groups of seven bits; 64 bits need at most ten groups.
const (
	groupBits = 7
	maxGroups = 10
	groupMask = 1<<groupBits - 1
	moreFlag  = 1 << groupBits // set in every group but the last
)

// Writer builds an encoding. The zero Writer is empty.
type Writer struct {
	data []byte
}

// Uint appends n with the fewest groups of seven bits, the lowest group first.
func (w *Writer) Uint(n uint64) {
	var groups [maxGroups]byte
	count := 0
	for n > groupMask {
		groups[count] = byte(n&groupMask) | moreFlag
		n >>= groupBits
		count++
	}
	groups[count] = byte(n)
	w.data = append(w.data, groups[:count+1]...)
}

// Int appends n in zigzag form.
func (w *Writer) Int(n int64) {
	double := uint64(n) << 1
	if n < 0 {
		// -2n - 1 is the complement of 2n, which is computed without overflow.
		double = ^double
	}
	w.Uint(double)
}

// Bool appends the byte 0 or 1.
func (w *Writer) Bool(b bool) {
	group := byte(0)
	if b {
		group = 1
	}
	w.data = append(w.data, group)
}

// Bytes appends the length of b and b.
func (w *Writer) Bytes(b []byte) {
	w.Uint(uint64(len(b)))
	w.data = append(w.data, b...)
}

// Text appends the length of s and s.
func (w *Writer) Text(s string) {
	w.Uint(uint64(len(s)))
	w.data = append(w.data, s...)
}

// Data returns what has been appended.
func (w *Writer) Data() []byte {
	return clone(w.data)
}

// clone returns a copy of b, which shares no memory with it.
func clone(b []byte) []byte {
	c := make([]byte, len(b))
	copy(c, b)
	return c
}
