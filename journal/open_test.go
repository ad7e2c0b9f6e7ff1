package journal_test

import (
	"encoding/binary"
	"math"
	"math/rand"
	"slices"
	"strings"
	"testing"

	"plexus/api"
	"plexus/journal"
	"plexus/sample"
)

// Open: which regions a disk of four sectors has.
func TestOpenRegion(t *testing.T) {
	for _, down := range []bool{false, true} {
		d := sample.Disk(4, 16)
		if down {
			d.Fail(0)
			d.Sync()
		}
		for _, first := range []int{math.MinInt, -4, -1, 0, 1, 2, 3, 4, 5, 1 << 32, math.MaxInt} {
			for _, count := range []int{math.MinInt, -2, -1, 0, 1, 2, 3, 4, 5, 1 << 32, 1 << 62, math.MaxInt} {
				want := api.ErrArgument
				if count >= 2 && count <= 4 && first >= 0 && first <= 4-count {
					want = api.OK
					if down {
						want = api.ErrDown
					}
				}
				if j, e := journal.Open(d, first, count); e != want || (j != nil) != (want == api.OK) {
					t.Errorf("Open of %d sectors from %d, down %t: %d instead of %d", count, first, down, e, want)
				}
			}
		}
	}
}

// mark is the text of a head, and full an area with two records.
const (
	mark = "\x07journal"
	full = "\x0f123456789012345" + "\x0f123456789012345"
)

// regions are heads and areas of regions of three sectors of 16 bytes, and the lists that they hold.
var regions = []struct {
	head, area string
	want       []string
	ok         bool
}{
	{"", "", nil, true},
	{"", "\x02ab\xff", nil, true},
	{mark + "\x00", "\xff\xff", nil, true},
	{mark, "\xff\xff", nil, true},
	{mark + "\x01", "", []string{""}, true},
	{mark + "\x03", "\x02ab\xff\xff", []string{"ab"}, true},
	{mark + "\x04", "\x02ab\x00\xff", []string{"ab", ""}, true},
	{mark + "\x20", full, []string{"123456789012345", "123456789012345"}, true},
	{mark + "\x20", "", slices.Repeat([]string{""}, 32), true},
	{mark + "\x20", "\x1f" + full[1:], []string{full[1:]}, true},
	{mark + "\x10", full, []string{"123456789012345"}, true},

	{mark + "\x21", "", nil, false},                                                      // longer than the area
	{mark + "\x80\x80\x80\x80\x80\x80\x80\x80", "", nil, false},                          // no end of the number
	{mark + "\xff\xff\xff\xff\xff\xff\xff\x7f", "", nil, false},                          // a great number
	{mark + "\x80\x00", "", nil, false},                                                  // a superfluous group
	{mark + "\x83\x00", "\x02ab", nil, false},                                            // a superfluous group
	{mark + "\x03\x01", "\x02ab", nil, false},                                            // not zeros
	{mark + "\x03\x00\x00\x00\x00\x00\x00\x01", "\x02ab", nil, false},                    // not zeros
	{mark + "\x00\x00\x00\x00\x00\x00\x00\x01", "", nil, false},                          // not zeros
	{"\x00journal\x03", "\x02ab", nil, false},                                            // no text
	{"\x07journam\x03", "\x02ab", nil, false},                                            // another text
	{"\x06journa\x03", "\x02ab", nil, false},                                             // a shorter text
	{"\x08journals\x03", "\x02ab", nil, false},                                           // a longer text
	{"\x87\x00journal\x03", "\x02ab", nil, false},                                        // a superfluous group
	{"\x07Journal\x03", "\x02ab", nil, false},                                            // a capital
	{"journal\x03", "\x02ab", nil, false},                                                // no length
	{"\x0fjournal\x03", "\x02ab", nil, false},                                            // a text up to the end
	{"\x10journal\x03", "\x02ab", nil, false},                                            // a text beyond the end
	{"\x00\x07journal\x03", "\x02ab", nil, false},                                        // zeros before it
	{"\x00\x00\x00\x00\x00\x00\x00\x00\x00\x00\x00\x00\x00\x00\x00\x01", "", nil, false}, // only the last byte is not zero
	{mark + "\x02", "\x02ab", nil, false},                                                // a record longer than the stream
	{mark + "\x04", "\x02ab\x01c", nil, false},                                           // a record longer than the stream
	{mark + "\x01", "\x01", nil, false},                                                  // a record without its bytes
	{mark + "\x04", "\x82\x00ab", nil, false},                                            // a superfluous group
	{mark + "\x01", "\x80", nil, false},                                                  // a number without its end
	{mark + "\x01", "\x80\x01", nil, false},                                              // a number that ends behind the stream
	{mark + "\x0b", "\xff\xff\xff\xff\xff\xff\xff\xff\xff\x01", nil, false},              // a record of 2^64 - 1 bytes
	{mark + "\x20", "\x20" + full[1:], nil, false},                                       // a record longer than the area
}

// P26.1: what Open finds in the regions.
func TestOpen(t *testing.T) {
	for _, c := range regions {
		d := sample.Disk(4, 16)
		sample.Put(d, 0, c.head)
		sample.Put(d, 1, c.area[:min(16, len(c.area))])
		sample.Put(d, 2, c.area[min(16, len(c.area)):])
		sample.Put(d, 3, "\xff")
		j, e := journal.Open(d, 0, 3)
		if c.ok && e != api.OK || !c.ok && (e != api.ErrCorrupt || j != nil) {
			t.Errorf("Open of the head %q and the area %q: %d", c.head, c.area, e)
		} else if c.ok {
			is(t, "opened", j, 32, false, c.want...)
		}
		if got, ok := holds(d, 0, 3); ok != c.ok || !slices.Equal(got, c.want) {
			t.Errorf("the definition, for the head %q and the area %q: %q, %t", c.head, c.area, got, ok)
		}
	}
}

// P26.1: heads with numbers up to those that no int has.
func TestOpenOfGreatNumbers(t *testing.T) {
	for _, n := range []uint64{97, 1 << 31, 1 << 32, 1<<32 + 3, 1<<63 - 1, 1 << 63, 1<<63 + 3, math.MaxUint64} {
		d := sample.Disk(4, 32)
		sample.Put(d, 0, mark+string(binary.AppendUvarint(nil, n)))
		if j, e := journal.Open(d, 0, 4); e != api.ErrCorrupt || j != nil {
			t.Errorf("Open of a stream of %d bytes: %d", n, e)
		}
	}
	for _, record := range []uint64{95, 1 << 31, 1<<63 - 1, 1 << 63, math.MaxUint64} {
		d := sample.Disk(4, 32)
		sample.Put(d, 0, mark+"\x60")
		sample.Put(d, 1, string(binary.AppendUvarint(nil, record)))
		if j, e := journal.Open(d, 0, 4); (e == api.OK) != (record == 95) || (j != nil) != (record == 95) {
			t.Errorf("Open with a record of %d bytes: %d", record, e)
		}
	}
}

// P26.1: regions whose heads and areas are made at random, compared with the definition.
func TestOpenRandom(t *testing.T) {
	source := rand.New(rand.NewSource(1))
	some := func(n int, bytes string) string {
		var s strings.Builder
		for range n {
			s.WriteByte(bytes[source.Intn(len(bytes))])
		}
		return s.String()
	}
	good := 0
	for range 30000 {
		d := sample.Disk(5, 16)
		head := mark + some(source.Intn(3), "\x00\x01\x02\x03\x04\x05\x06\x07\x08\x0f\x10\x11\x20\x21\x7f\x80\x81\xff")
		if source.Intn(10) == 0 {
			head = some(source.Intn(4), "\x00\x01\x07j") + head[source.Intn(len(head)):]
		}
		sample.Put(d, 1, head)
		for i := 2; i < 5; i++ {
			sample.Put(d, i, some(16, "\x00\x00\x00\x01\x01\x02\x03a\x80"))
		}
		want, ok := holds(d, 1, 3)
		j, e := journal.Open(d, 1, 3)
		if ok != (e == api.OK) || !ok && e != api.ErrCorrupt {
			t.Fatalf("Open of %q: %d", sample.Sectors(d, 1, 3), e)
		}
		if ok {
			good++
			is(t, "opened", j, 32, false, want...)
		}
	}
	if good < 5000 || good > 25000 {
		t.Errorf("%d of 30000 regions hold a list", good)
	}
}

// P26.1: Open writes nothing, and needs no operation that a countdown counts.
func TestOpenWritesNothing(t *testing.T) {
	for _, head := range []string{"", mark + "\x03", mark + "\x04"} {
		d := sample.Disk(4, 16)
		sample.Put(d, 1, head)
		sample.Put(d, 2, "\x02ab\xff")
		before := sample.Sectors(d, 0, 4)
		d.Fail(0)
		j, e := journal.Open(d, 1, 3)
		if d.Cached() != 2 || d.Down() || sample.Sectors(d, 0, 4) != before {
			t.Errorf("the head %q: %d cached, down %t", head, d.Cached(), d.Down())
		}
		if e == api.OK {
			j.Records()
			j.Left()
			j.Down()
		}
		if d.Cached() != 2 || d.Down() || d.Sync() != api.ErrDown {
			t.Errorf("the head %q: %d cached, down %t", head, d.Cached(), d.Down())
		}
	}
}

// P26.2: what was in the cache when the journal was opened is durable when Append or Reset return OK.
func TestOpenOfCache(t *testing.T) {
	for _, reset := range []bool{false, true} {
		d := sample.Disk(4, 16)
		sample.Put(d, 0, mark+"\x14")
		sample.Put(d, 1, "\x13abcdefghijklmnopqrs")
		sample.Put(d, 2, "pqrs")
		j := opened(t, d, 0, 4)
		want := []string{"abcdefghijklmnopqrs", "second"}
		e := j.Append(batch("second"))
		if reset {
			e, want = j.Reset(), nil
		}
		if e != api.OK {
			t.Errorf("the operation: %d", e)
		}
		d.Crash(nil)
		is(t, "crashed", opened(t, d, 0, 4), 48, false, want...)
	}
}
