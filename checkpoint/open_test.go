package checkpoint_test

import (
	"encoding/binary"
	"math"
	"math/rand"
	"strings"
	"testing"

	"plexus/api"
	"plexus/checkpoint"
	"plexus/disk"
	"plexus/sample"
)

// Open: which regions a disk of six sectors has, with power and without.
func TestOpenRegion(t *testing.T) {
	for _, down := range []bool{false, true} {
		for _, size := range []int{16, 63, 64, 65} {
			d := sample.Disk(6, size)
			if down {
				turnOff(d)
			}
			for _, first := range []int{math.MinInt, -4, -1, 0, 1, 2, 3, 5, 6, 7, 1 << 32, math.MaxInt - 3, math.MaxInt} {
				for _, count := range []int{math.MinInt, -4, 0, 1, 2, 3, 4, 5, 6, 7, 1 << 32, 1 << 62, math.MaxInt} {
					want := api.ErrArgument
					if size >= 64 && count >= 4 && count <= 6 && first >= 0 && first <= 6-count {
						want = api.OK
						if down {
							want = api.ErrDown
						}
					}
					if c, e := checkpoint.Open(d, first, count); e != want || (c != nil) != (want == api.OK) {
						t.Errorf("Open of %d sectors of %d bytes from %d, down %t: %d instead of %d", count, size, first, down, e, want)
					}
				}
			}
		}
	}
}

// full is a body of three sectors of 64 bytes.
var full = letters(192, 'a')

// changed returns a text in which some bits of a byte are changed.
func changed(s string, at int, bits byte) string {
	return s[:at] + string([]byte{s[at] ^ bits}) + s[at+1:]
}

// slots are contents of slots of four sectors of 64 bytes: the header, the body, and the checkpoint that the slot holds.
var slots = []struct {
	header, body string
	holds        saved
}{
	{"", "", saved{}},
	{"", full, saved{}},
	{strings.Repeat("\xff", 64), full, saved{}},
	{header("", 1), full, saved{"", 1}},
	{header("abc", 1), "abc", saved{"abc", 1}},
	{header("abc", 1), "abc" + full[3:], saved{"abc", 1}},
	{header(full[:64], 1), full, saved{full[:64], 1}},
	{header(full[:65], 2), full, saved{full[:65], 2}},
	{header("abc", 2), "abd", saved{}},
	{header("abc", 2), "ab", saved{}},
	{header(full, 7), full, saved{full, 7}},
	{header(full, 7), full[:191], saved{}},
	{header("abc", 256), "abc", saved{"abc", 256}},
	{header("abc", 1<<32), "abc", saved{"abc", 1 << 32}},
	{header("abc", greatest-1), "abc", saved{"abc", greatest - 1}},
	{header("abc", greatest), "abc", saved{"abc", greatest}},
	// Example 4: generations that there are not.
	{header("abc", 0), "abc", saved{}},
	{header("", 0), "", saved{}},
	{header("abc", greatest+1), "abc", saved{}},
	{header("abc", 1<<63), "abc", saved{}},
	{header("abc", 1<<63+1), "abc", saved{}},
	{header("abc", math.MaxUint64), "abc", saved{}},
	// Headers that are not exactly this.
	{header("abc", 3) + "\x01", "abc", saved{}},
	{padded(header("abc", 3), 63) + "\x01", "abc", saved{}},
	{changed(header("abc", 3), 7, 1), "abc", saved{}},
	{changed(header("abc", 3), 11, 1), "abc", saved{}},
	{changed(header("abc", 3), 43, 1), "abc", saved{}},
	{header("abc", 3)[:12] + header("abd", 3)[12:], "abc", saved{}},
	{header("abc", 3)[:12] + header("abc", 4)[12:], "abc", saved{}},
	{header("abc", 3)[:8] + "\x03\x00\x00\x00" + header("abc", 3)[12:], "abc", saved{}},
	{header("abc", 3)[:8] + "\xff\xff\xff\xff" + header("abc", 3)[12:], "abc", saved{}},
	// One byte more than the body has: it would be the first one of the slot behind it.
	{header(full+"\x00", 9), full, saved{}},
	{header(full+"\xa5", 9), full, saved{}},
}

// P27.1 and P27.3: all pairs of these slots, in regions with one sector more and without.
func TestOpenSlots(t *testing.T) {
	for i, a := range slots {
		for k, b := range slots {
			for count := 8; count < 10; count++ {
				d := laid(12, 64, 2, padded(a.header, 64)+padded(a.body, 192)+padded(b.header, 64)+padded(b.body, 192))
				want := a.holds
				if b.holds.generation > a.holds.generation {
					want = b.holds
				}
				if got, _ := holds(d, 2, count); got != want {
					t.Fatalf("the slots %d and %d hold %d", i, k, got.generation)
				}
				checkOpen(t, d, 2, count, want)
			}
		}
	}
}

// checkOpen checks that Open finds a checkpoint, and that it writes nothing and is not counted by a countdown.
func checkOpen(t *testing.T, d *disk.Disk, first, count int, want saved) {
	t.Helper()
	before := sample.Sectors(d, 0, d.Sectors())
	cached := d.Cached()
	d.Fail(0)
	is(t, "opened", opened(t, d, first, count), (count/2-1)*d.Size(), false, want)
	if d.Down() || d.Cached() != cached || sample.Sectors(d, 0, d.Sectors()) != before {
		t.Fatal("Open writes or syncs")
	}
	d.Fail(math.MaxInt)
}

// P27.1: where the slots of a region are, for all its lengths.
func TestOpenPlaces(t *testing.T) {
	for count := 4; count < 12; count++ {
		n := count / 2
		for _, size := range []int{64, 65, 100} {
			for at := range count + 3 {
				d := laid(count+4, size, at, padded(header("abc", 5), size)+"abc")
				want := saved{}
				if at == 1 || at == 1+n {
					want = saved{"abc", 5}
				}
				checkOpen(t, d, 1, count, want)
			}
		}
	}
}

// P27.1: each bit of the header and of the checkpoint counts, no bit behind it does.
func TestOpenBits(t *testing.T) {
	text := padded(header("checkpoint", 300), 64) + padded("checkpoint", 192)
	for slot := range 2 {
		for at := range len(text) {
			for bit := range 8 {
				d := laid(8, 64, slot*4, changed(text, at, 1<<bit))
				want := saved{}
				if at >= 64+10 {
					want = saved{"checkpoint", 300}
				}
				checkOpen(t, d, 0, 8, want)
			}
		}
	}
}

// P27.1: writes in the cache are read, too.
func TestOpenCached(t *testing.T) {
	d := laid(8, 64, 0, padded(header("old", 1), 64)+"old")
	sample.Put(d, 4, header("new", 2))
	checkOpen(t, d, 0, 8, saved{"old", 1})
	sample.Put(d, 5, "new")
	checkOpen(t, d, 0, 8, saved{"new", 2})
}

// P27.1: whatever the sectors contain: random slots, some of them nearly those of checkpoints.
func TestOpenRandom(t *testing.T) {
	source := rand.New(rand.NewSource(1))
	for range 3000 {
		size, count := 64+source.Intn(40), 4+source.Intn(6)
		room := (count/2 - 1) * size
		var text string
		for range 2 {
			b := make([]byte, room)
			source.Read(b)
			length := uint64(source.Intn(room + 1))
			generation := []uint64{0, 1, 2, 3, greatest, greatest + 1, 1 << 63}[source.Intn(7)]
			h := []byte(header(string(b[:length]), generation))
			switch source.Intn(8) {
			case 0:
				binary.BigEndian.PutUint32(h[8:], uint32(source.Uint64()))
			case 1:
				binary.BigEndian.PutUint64(h, source.Uint64())
			case 2:
				h[source.Intn(len(h))] ^= 1 << source.Intn(8)
			}
			text += padded(string(h), size) + string(b)
		}
		d := laid(count+2, size, 1, text)
		want, _ := holds(d, 1, count)
		checkOpen(t, d, 1, count, want)
	}
}
