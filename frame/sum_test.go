package frame_test

import (
	"bytes"
	"encoding/binary"
	"hash/crc32"
	"math/rand"
	"testing"

	"plexus/frame"
)

// P30.2: the sum of byte strings of all lengths, and of all single bytes.
func TestSum(t *testing.T) {
	source := rand.New(rand.NewSource(33))
	for length := range 600 {
		b := make([]byte, length)
		source.Read(b)
		if got, want := frame.Sum(b), crc32.ChecksumIEEE(b); got != want {
			t.Fatalf("Sum(%x): %x instead of %x", b, got, want)
		}
	}
	for n := range 256 {
		b := []byte{byte(n)}
		if got, want := frame.Sum(b), crc32.ChecksumIEEE(b); got != want {
			t.Fatalf("Sum(%x): %x instead of %x", b, got, want)
		}
	}
	if frame.Sum(nil) != 0 || frame.Sum([]byte{}) != 0 {
		t.Error("the sum of no bytes")
	}
}

// P30.5: a byte string that is followed by its sum has the sum of four zero bytes.
func TestSumOfSum(t *testing.T) {
	source := rand.New(rand.NewSource(34))
	zeros := frame.Sum(make([]byte, 4))
	for length := range 300 {
		b := make([]byte, length)
		source.Read(b)
		b = binary.LittleEndian.AppendUint32(b, frame.Sum(b))
		if got := frame.Sum(b); got != zeros {
			t.Fatalf("Sum(%x): %x instead of %x", b, got, zeros)
		}
	}
}

// P30.5: the sum of the exclusive-or of three byte strings of one length is the exclusive-or of their sums.
func TestSumOfThree(t *testing.T) {
	source := rand.New(rand.NewSource(35))
	for length := range 300 {
		var strings [3][]byte
		all, want := make([]byte, length), uint32(0)
		for i := range strings {
			strings[i] = make([]byte, length)
			source.Read(strings[i])
			for k, c := range strings[i] {
				all[k] ^= c
			}
			want ^= frame.Sum(strings[i])
		}
		if got := frame.Sum(all); got != want {
			t.Fatalf("Sum(%x): %x instead of %x", all, got, want)
		}
	}
}

// changed returns b with the bits of a pattern changed, from the bit at on; each byte is counted from its lowest bit.
func changed(b []byte, at int, pattern uint32) []byte {
	c := bytes.Clone(b)
	for i := range 32 {
		if pattern>>i&1 != 0 {
			c[(at+i)/8] ^= 1 << ((at + i) % 8)
		}
	}
	return c
}

// P30.5: what is left of a frame when bits among 32 consecutive ones are changed is no frame.
func TestChangedBits(t *testing.T) {
	source := rand.New(rand.NewSource(36))
	for _, kind := range everyKind {
		b := encoded(t, shortFormed(t, source, kind))
		// The windows at the end contain fewer than 32 bits.
		for at := range 8 * len(b) {
			inside := ^uint32(0)
			if left := 8*len(b) - at; left < 32 {
				inside = 1<<left - 1
			}
			patterns := []uint32{1, 1 << 31, 1<<31 | 1, inside, 0xff, 0xff00, 0xedb88320, source.Uint32(), source.Uint32(), 1 | 1<<source.Intn(32)}
			for _, pattern := range patterns {
				if pattern &= inside; pattern != 0 {
					refused(t, "bits changed", changed(b, at, pattern))
				}
			}
		}
	}
}
