package checkpoint_test

import (
	"bytes"
	"crypto/sha256"
	"encoding/binary"
	"strings"
	"testing"

	"plexus/api"
	"plexus/checkpoint"
	"plexus/disk"
	"plexus/sample"
)

// greatest is the greatest generation.
const greatest = 1 << 62

// saved is a checkpoint with its generation, or nothing with 0.
type saved struct {
	content    string
	generation int64
}

// opened opens a store.
func opened(t *testing.T, d *disk.Disk, first, count int) *checkpoint.Store {
	t.Helper()
	c, e := checkpoint.Open(d, first, count)
	if e != api.OK || c == nil {
		t.Fatalf("Open: %d", e)
	}
	return c
}

// is checks what a store tells of itself.
func is(t *testing.T, what string, c *checkpoint.Store, room int, down bool, want saved) {
	t.Helper()
	content, generation := c.Load()
	if string(content) != want.content || generation != want.generation {
		t.Fatalf("%s: %d bytes of the generation %d instead of %d of %d", what, len(content), generation, len(want.content), want.generation)
	}
	if c.Room() != room || c.Down() != down {
		t.Fatalf("%s: room %d, down %t instead of %d, %t", what, c.Room(), c.Down(), room, down)
	}
}

// header returns what the header of a checkpoint has before its zeros, with numbers and digests of the standard library.
func header(b string, generation uint64) string {
	h := binary.BigEndian.AppendUint64(nil, generation)
	h = binary.BigEndian.AppendUint32(h, uint32(len(b)))
	digest := sha256.Sum256([]byte(string(h) + b))
	return string(h) + string(digest[:])
}

// padded returns a text with zeros behind it.
func padded(s string, length int) string {
	return s + strings.Repeat("\x00", length-len(s))
}

// holds returns the newest checkpoint of a region and the slot that holds it, by the definitions: all lengths are tried.
func holds(d *disk.Disk, first, count int) (saved, int) {
	newest, holder := saved{}, -1
	n := count / 2
	for slot := range 2 {
		text := sample.Sectors(d, first+slot*n, n)
		head, body := text[:d.Size()], text[d.Size():]
		generation := binary.BigEndian.Uint64([]byte(head))
		for length := range len(body) + 1 {
			if generation < 1 || generation > greatest || head != padded(header(body[:length], generation), d.Size()) {
				continue
			}
			if int64(generation) > newest.generation {
				newest, holder = saved{body[:length], int64(generation)}, slot
			}
		}
	}
	return newest, holder
}

// lay makes the sectors from first on have these bytes durably. The last one that is changed keeps what is behind them.
func lay(d *disk.Disk, first int, text string) {
	for i := 0; i < len(text); i += d.Size() {
		sector := first + i/d.Size()
		part := text[i:min(i+d.Size(), len(text))]
		sample.Put(d, sector, part+sample.Sectors(d, sector, 1)[len(part):])
	}
	d.Sync()
}

// laid returns a disk of junk with these bytes from a sector on.
func laid(sectors, size, first int, text string) *disk.Disk {
	d := sample.Disk(sectors, size)
	lay(d, 0, strings.Repeat("\xa5", sectors*size))
	lay(d, first, text)
	return d
}

// letters returns a content of this length in which no two sectors are equal.
func letters(length int, first byte) string {
	b := make([]byte, length)
	for i := range b {
		b[i] = first + byte(i%23)
	}
	return string(b)
}

// turnOff switches the power of a disk off.
func turnOff(d *disk.Disk) {
	d.Fail(0)
	d.Sync()
}

// sameBytes reports whether a byte string is this text.
func sameBytes(b []byte, s string) bool { return bytes.Equal(b, []byte(s)) }
