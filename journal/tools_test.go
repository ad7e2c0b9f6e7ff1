package journal_test

import (
	"bytes"
	"encoding/binary"
	"slices"
	"strings"
	"testing"

	"plexus/api"
	"plexus/disk"
	"plexus/journal"
	"plexus/sample"
)

// opened opens a journal.
func opened(t *testing.T, d *disk.Disk, first, count int) *journal.Journal {
	t.Helper()
	j, e := journal.Open(d, first, count)
	if e != api.OK || j == nil {
		t.Fatalf("Open: %d", e)
	}
	return j
}

// batch returns records.
func batch(records ...string) [][]byte {
	var list [][]byte
	for _, s := range records {
		list = append(list, []byte(s))
	}
	return list
}

// texts returns the records of a journal.
func texts(j *journal.Journal) []string {
	var list []string
	for _, b := range j.Records() {
		list = append(list, string(b))
	}
	return list
}

// is checks what a journal tells of itself: its records, whether it is down, and what is left of an area of room bytes.
func is(t *testing.T, what string, j *journal.Journal, room int, down bool, want ...string) {
	t.Helper()
	if got := texts(j); !slices.Equal(got, want) {
		t.Fatalf("%s: the records %q instead of %q", what, got, want)
	}
	left := -1
	if !down {
		left = greatest(room - len(stream(want)))
	}
	if j.Down() != down || j.Left() != left {
		t.Fatalf("%s: down %t, left %d instead of %t, %d", what, j.Down(), j.Left(), down, left)
	}
}

// stream returns the stream of a list, with numbers from the standard library.
func stream(records []string) []byte {
	var b []byte
	for _, s := range records {
		b = binary.AppendUvarint(b, uint64(len(s)))
		b = append(b, s...)
	}
	return b
}

// greatest returns the greatest length of a record whose encoding is not longer than n, or -1.
func greatest(n int) int {
	for length := n; length >= 0; length-- {
		if len(binary.AppendUvarint(nil, uint64(length)))+length <= n {
			return length
		}
	}
	return -1
}

// number returns the number with which b begins and the bytes behind it, or false if b begins with none.
func number(b []byte) (uint64, []byte, bool) {
	n, length := binary.Uvarint(b)
	if length <= 0 || length != len(binary.AppendUvarint(nil, n)) {
		return 0, nil, false
	}
	return n, b[length:], true
}

// holds returns the list that a region holds, read by the definition of the chapter, or false if it holds none.
func holds(d *disk.Disk, first, count int) ([]string, bool) {
	head := sample.Sectors(d, first, 1)
	if strings.Trim(head, "\x00") == "" {
		return nil, true
	}
	rest, ok := strings.CutPrefix(head, "\x07journal")
	n, zeros, good := number([]byte(rest))
	if !ok || !good || len(bytes.Trim(zeros, "\x00")) != 0 {
		return nil, false
	}
	area := sample.Sectors(d, first+1, count-1)
	if n > uint64(len(area)) {
		return nil, false
	}
	var list []string
	for b := []byte(area)[:n]; len(b) > 0; {
		length, behind, ok := number(b)
		if !ok || length > uint64(len(behind)) {
			return nil, false
		}
		list = append(list, string(behind[:length]))
		b = behind[length:]
	}
	return list, true
}
