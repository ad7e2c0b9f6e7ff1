package wire

import "plexus/api"

// Reader reads an encoding. After the first error all reads return zero values.
type Reader struct {
	data   []byte
	offset int
	last   int // where the item that was read last begins, for Fail
	err    api.Errno
}

// NewReader returns a Reader of b at the offset 0.
func NewReader(b []byte) *Reader {
	return &Reader{data: clone(b)}
}

// Uint reads a number that Uint appended.
func (r *Reader) Uint() uint64 {
	n, end, ok := r.number()
	if !r.settle(end, ok) {
		return 0
	}
	return n
}

// Int reads a number that Int appended.
func (r *Reader) Int() int64 {
	n := r.Uint()
	half := int64(n >> 1)
	if n&1 == 1 {
		return ^half
	}
	return half
}

// Bool reads a byte 0 or 1.
func (r *Reader) Bool() bool {
	start := r.offset
	if !r.settle(start+1, start < len(r.data) && r.data[start] <= 1) {
		return false
	}
	return r.data[start] == 1
}

// Bytes reads a byte string.
func (r *Reader) Bytes() []byte {
	start, end, ok := r.run()
	if !r.settle(end, ok) {
		return nil
	}
	return clone(r.data[start:end])
}

// Text reads a string.
func (r *Reader) Text() string {
	start, end, ok := r.run()
	if !r.settle(end, ok) {
		return ""
	}
	return string(r.data[start:end])
}

// Count reads the number of elements of a list, each of which has at least one byte.
func (r *Reader) Count() int {
	n, end, ok := r.number()
	if !r.settle(end, ok && n <= uint64(len(r.data)-end)) {
		return 0
	}
	return int(n)
}

// Fail records ErrSyntax at the item that was read last.
func (r *Reader) Fail() {
	if r.err != api.OK {
		return
	}
	r.err = api.ErrSyntax
	r.offset = r.last
}

// Err returns the error, or OK.
func (r *Reader) Err() api.Errno { return r.err }

// Offset returns the offset of the next byte, or of the item that failed.
func (r *Reader) Offset() int { return r.offset }

// Left returns the number of bytes that have not been read.
func (r *Reader) Left() int { return len(r.data) - r.offset }

// End returns the error; if there is none and bytes are left, ErrSyntax.
func (r *Reader) End() api.Errno {
	if r.err == api.OK && r.Left() != 0 {
		return api.ErrSyntax
	}
	return r.err
}

// settle ends the read of the item at the offset, and reports whether the read succeeds: ok says whether the item was found, and end where it ends.
func (r *Reader) settle(end int, ok bool) bool {
	if r.err != api.OK {
		return false
	}
	r.last = r.offset
	if !ok {
		r.err = api.ErrSyntax
		return false
	}
	r.offset = end
	return true
}

// number returns the Uint that begins at the offset and the offset behind it, or false if none begins there. It does not change r.
func (r *Reader) number() (uint64, int, bool) {
	rest := r.data[r.offset:]
	n := uint64(0)
	for i := range maxGroups {
		if i == len(rest) {
			return 0, 0, false
		}
		group := rest[i]
		n |= uint64(group&groupMask) << (groupBits * i)
		if group >= moreFlag {
			continue
		}
		if !mayEnd(i, group) {
			return 0, 0, false
		}
		return n, r.offset + i + 1, true
	}
	return 0, 0, false
}

// mayEnd reports whether a number may end with this group at this index: a last group 0 would be superfluous, and 64 bits leave one bit to the tenth group.
func mayEnd(index int, group byte) bool {
	if index == 0 {
		return true
	}
	return group != 0 && (index < maxGroups-1 || group == 1)
}

// run returns where the bytes of the byte string at the offset begin and end, or false if no byte string begins there. It does not change r.
func (r *Reader) run() (int, int, bool) {
	n, start, ok := r.number()
	if !ok || n > uint64(len(r.data)-start) {
		return 0, 0, false
	}
	return start, start + int(n), true
}
