package journal_test

import (
	"bytes"
	"slices"
	"strings"
	"testing"

	"plexus/api"
	"plexus/journal"
	"plexus/sample"
)

// P26.2, P26.4 and P26.5: the examples.
func TestExamples(t *testing.T) {
	d := sample.Disk(3, 16)
	j := opened(t, d, 0, 3)
	is(t, "a new journal", j, 32, false)
	if j.Left() != 31 {
		t.Errorf("%d left of 32", j.Left())
	}
	if e := j.Append(batch("ab", "")); e != api.OK || j.Left() != 27 {
		t.Errorf("Append: %d, %d left", e, j.Left())
	}
	is(t, "two records", j, 32, false, "ab", "")
	if head := sample.Sectors(d, 0, 1); head != "\x07\x6a\x6f\x75\x72\x6e\x61\x6c\x04\x00\x00\x00\x00\x00\x00\x00" {
		t.Errorf("the head is %x", head)
	}
	if area := sample.Sectors(d, 1, 2); !strings.HasPrefix(area, "\x02\x61\x62\x00") {
		t.Errorf("the area is %x", area)
	}
	if e := j.Reset(); e != api.OK || j.Left() != 31 {
		t.Errorf("Reset: %d, %d left", e, j.Left())
	}
	is(t, "after Reset", j, 32, false)
	is(t, "opened again", opened(t, d, 0, 3), 32, false)
}

// P26.2: batches are appended in order, to lists that end anywhere in a sector, and are found again.
func TestAppend(t *testing.T) {
	for count := 2; count < 5; count++ {
		for start := range (count-1)*16 + 1 {
			d := sample.Disk(count+2, 16)
			j := opened(t, d, 1, count)
			var want []string
			for range start {
				want = append(want, "")
			}
			room := (count - 1) * 16
			for i, records := range [][]string{want, {"abc", ""}, {""}, nil, {"a long one, of 24 bytes.", "x"}, {}, {"", "", "z"}} {
				e := j.Append(batch(records...))
				if full := len(stream(want))+len(stream(records)) > room && i > 0; full != (e == api.ErrFull) || !full && e != api.OK {
					t.Fatalf("%d sectors, %d records, the batch %d: %d", count, start, i, e)
				} else if !full && i > 0 {
					want = append(want, records...)
				}
				is(t, "appended", j, room, false, want...)
				if got, ok := holds(d, 1, count); !ok || !slices.Equal(got, want) {
					t.Fatalf("the region holds %q, %t instead of %q", got, ok, want)
				}
				is(t, "opened again", opened(t, d, 1, count), room, false, want...)
			}
		}
	}
}

// P26.2: an empty batch returns OK, also if nothing is left.
func TestAppendNothing(t *testing.T) {
	d := sample.Disk(2, 16)
	j := opened(t, d, 0, 2)
	for _, records := range []string{"", "123456789012345"} {
		if records != "" && j.Append(batch(records)) != api.OK {
			t.Fatal("a full area")
		}
		for _, none := range [][][]byte{nil, {}} {
			if e := j.Append(none); e != api.OK {
				t.Errorf("Append: %d", e)
			}
		}
	}
	is(t, "full", j, 16, false, "123456789012345")
	if j.Left() != -1 {
		t.Errorf("%d left of nothing", j.Left())
	}
}

// P26.2: a nil record is an empty one.
func TestNilRecord(t *testing.T) {
	d := sample.Disk(2, 16)
	j := opened(t, d, 0, 2)
	if e := j.Append([][]byte{nil, {}, nil}); e != api.OK {
		t.Errorf("Append: %d", e)
	}
	is(t, "three records", j, 16, false, "", "", "")
	is(t, "opened again", opened(t, d, 0, 2), 16, false, "", "", "")
}

// ErrFull: all records of a batch are appended, or none.
func TestFull(t *testing.T) {
	d := sample.Disk(4, 16)
	j := opened(t, d, 0, 4)
	j.Append(batch("abc"))
	for _, records := range [][]string{
		{strings.Repeat("x", 44)}, {strings.Repeat("x", 43), ""}, {"", strings.Repeat("x", 43)}, slices.Repeat([]string{""}, 45),
		{"a", "b", strings.Repeat("x", 1000)}, {strings.Repeat("x", 128)}, {"a", strings.Repeat("x", 1<<20), "b"},
	} {
		before := sample.Sectors(d, 0, 4)
		if e := j.Append(batch(records...)); e != api.ErrFull {
			t.Errorf("Append of %d records: %d", len(records), e)
		}
		is(t, "full", j, 48, false, "abc")
		if d.Cached() != 0 || sample.Sectors(d, 0, 4) != before {
			t.Error("something was written")
		}
	}
	if e := j.Append(batch(strings.Repeat("x", 42))); e != api.OK || j.Left() != 0 {
		t.Errorf("a batch that nearly fits: %d, %d left", e, j.Left())
	}
	if e := j.Append(batch("")); e != api.OK || j.Left() != -1 {
		t.Errorf("a batch that fits: %d, %d left", e, j.Left())
	}
	if e := j.Append(batch("")); e != api.ErrFull {
		t.Errorf("a batch behind it: %d", e)
	}
	if e := j.Reset(); e != api.OK || j.Append(slices.Repeat(batch(""), 48)) != api.OK || j.Left() != -1 {
		t.Errorf("Reset: %d", e)
	}
}

// P26.5: for every length of the stream, what is left can be appended, and nothing longer.
func TestLeft(t *testing.T) {
	for _, c := range []struct{ count, size int }{{2, 16}, {4, 17}, {3, 100}, {14, 16}} {
		room := (c.count - 1) * c.size
		for fill := range room + 1 {
			d := sample.Disk(c.count, c.size)
			j := opened(t, d, 0, c.count)
			if e := j.Append(slices.Repeat(batch(""), fill)); e != api.OK {
				t.Fatalf("Append of %d empty records: %d", fill, e)
			}
			left(t, j, room-fill)
		}
	}
}

// P26.5: what is left where the length of a record needs one more byte.
func TestLeftOfMuch(t *testing.T) {
	const room = 5 * 4096
	for _, rest := range []int{0, 1, 2, 127, 128, 129, 130, 131, 16384, 16385, 16386, 16387, 16388} {
		d := sample.Disk(6, 4096)
		j := opened(t, d, 0, 6)
		if e := j.Append(slices.Repeat(batch(""), room-rest)); e != api.OK {
			t.Fatalf("Append: %d", e)
		}
		left(t, j, rest)
	}
}

// left checks Left where so many bytes of the area are free.
func left(t *testing.T, j *journal.Journal, free int) {
	t.Helper()
	n := j.Left()
	if n != greatest(free) {
		t.Errorf("%d left of %d bytes", n, free)
	}
	for length := n + 1; length <= min(free+2, n+8); length++ {
		if e := j.Append([][]byte{make([]byte, length)}); e != api.ErrFull {
			t.Errorf("%d left of %d bytes: Append of %d bytes returns %d", n, free, length, e)
		}
	}
	if n < 0 {
		return
	}
	if e := j.Append([][]byte{make([]byte, n)}); e != api.OK || j.Down() {
		t.Errorf("%d left of %d bytes: Append returns %d", n, free, e)
	}
}

// P26.4: neither arguments nor results share memory with the journal or with each other.
func TestMemory(t *testing.T) {
	d := sample.Disk(4, 16)
	j := opened(t, d, 0, 4)
	room := append(make([]byte, 0, 64), "first"...)
	records := [][]byte{room, []byte("second")}
	j.Append(records)
	if string(records[0]) != "first" || string(records[1]) != "second" || !bytes.Equal(room[:64][5:], make([]byte, 59)) {
		t.Errorf("the arguments are %q", records)
	}
	records[0][0], records[1] = 'X', nil
	is(t, "arguments changed", j, 48, false, "first", "second")
	k := opened(t, d, 0, 4)
	for _, x := range []*journal.Journal{j, k} {
		list, other := x.Records(), x.Records()
		list[0][1], list[1] = 'X', nil
		list[0] = append(list[0][:2], "zzzzzzzzzz"...)
		if string(other[0]) != "first" || string(other[1]) != "second" {
			t.Errorf("another result is %q", other)
		}
		other[0] = append(other[0], "zzzzzzzzzzzz"...)
		if string(other[1]) != "second" {
			t.Errorf("the next record is %q", other[1])
		}
		is(t, "results changed", x, 48, false, "first", "second")
	}
	if e := j.Append(batch("third")); e != api.OK {
		t.Errorf("Append: %d", e)
	}
	is(t, "appended", opened(t, d, 0, 4), 48, false, "first", "second", "third")
}

// P26.2: a region of as many sectors as a disk may have, and long records.
func TestGreatRegion(t *testing.T) {
	const count, size = 65536, 16
	d := sample.Disk(count, size)
	j := opened(t, d, 0, count)
	const room = (count - 1) * size
	long := strings.Repeat("0123456789", room/10-1000)
	if e := j.Append(batch("a", long, "b")); e != api.OK {
		t.Fatalf("Append: %d", e)
	}
	want := []string{"a", long, "b"}
	for range 300 {
		if e := j.Append(batch("short")); e != api.OK {
			t.Fatalf("Append: %d", e)
		}
		want = append(want, "short")
	}
	is(t, "appended", j, room, false, want...)
	d.Crash(nil)
	is(t, "opened again", opened(t, d, 0, count), room, false, want...)
}
