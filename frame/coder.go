package frame

import (
	"math/bits"

	"plexus/api"
	"plexus/wire"
)

// coder goes through the items of a payload. One that writes takes each item from where the pointer points, one that reads puts it there; so both go the same way.
type coder interface {
	natural(n *int) // a Uint
	integer(n *int)
	boolean(b *bool)
	bytes(b *[]byte)
	text(s *string)
	count(n int) int // the number of elements of a list: n, or the one that was read
}

// counter counts the bytes that a writer would write.
type counter struct{ size int }

func (c *counter) natural(n *int)  { c.size += length(uint64(*n)) }
func (c *counter) integer(n *int)  { c.size += length(uint64(*n<<1 ^ *n>>63)) }
func (c *counter) boolean(b *bool) { c.size++ }
func (c *counter) bytes(b *[]byte) { c.size += length(uint64(len(*b))) + len(*b) }
func (c *counter) text(s *string)  { c.size += length(uint64(len(*s))) + len(*s) }
func (c *counter) count(n int) int { c.size += length(uint64(n)); return n }

// length returns the number of bytes of a Uint: one for each group of seven bits, at least one.
func length(n uint64) int { return (bits.Len64(n|1) + 6) / 7 }

// writer writes the items.
type writer struct{ wire wire.Writer }

func (w *writer) natural(n *int)  { w.wire.Uint(uint64(*n)) }
func (w *writer) integer(n *int)  { w.wire.Int(int64(*n)) }
func (w *writer) boolean(b *bool) { w.wire.Bool(*b) }
func (w *writer) bytes(b *[]byte) { w.wire.Bytes(*b) }
func (w *writer) text(s *string)  { w.wire.Text(*s) }
func (w *writer) count(n int) int { w.wire.Uint(uint64(n)); return n }

// reader reads the items. It stops at the first error by a panic with it, so that what goes through the items need not look for errors.
type reader struct{ wire *wire.Reader }

func (r reader) natural(n *int)  { *n = good(r, int(r.wire.Uint())) }
func (r reader) integer(n *int)  { *n = good(r, int(r.wire.Int())) }
func (r reader) boolean(b *bool) { *b = good(r, r.wire.Bool()) }
func (r reader) bytes(b *[]byte) { *b = good(r, r.wire.Bytes()) }
func (r reader) text(s *string)  { *s = good(r, r.wire.Text()) }
func (r reader) count(int) int   { return good(r, r.wire.Count()) }

// good returns an item that was read, if there is no error.
func good[T any](r reader, item T) T {
	if e := r.wire.Err(); e != api.OK {
		panic(e)
	}
	return item
}
