package sha256

import (
	"bytes"
	standard "crypto/sha256"
	"encoding/hex"
	"math/rand"
	"strings"
	"testing"
)

// known are messages with their digests in hexadecimal digits.
var known = []struct{ message, digest string }{
	{"", "e3b0c44298fc1c149afbf4c8996fb92427ae41e4649b934ca495991b7852b855"},
	{"abc", "ba7816bf8f01cfea414140de5dae2223b00361a396177a9cb410ff61f20015ad"},
	{"abcdbcdecdefdefgefghfghighijhijkijkljklmklmnlmnomnopnopq", "248d6a61d20638b8e5c026930c3e6039a33ce45964ff2167f6ecedd419db06c1"},
	{strings.Repeat("a", 1000000), "cdc76e5c9914fb9281a1c7e284d73e67f1809a48a497200e046d39ccc7112cd0"},
}

// randomBytes returns n bytes.
func randomBytes(source *rand.Rand, n int) []byte {
	b := make([]byte, n)
	source.Read(b)
	return b
}

// checkSum compares the digest of b with that of the standard library.
func checkSum(t *testing.T, what string, got string, b []byte) {
	t.Helper()
	if want := standard.Sum256(b); got != string(want[:]) {
		t.Fatalf("%s: the digest of %d bytes is %x instead of %x", what, len(b), got, want)
	}
}

// P3.1: the examples 1 to 3.
func TestSum(t *testing.T) {
	for _, c := range known {
		got := Sum([]byte(c.message))
		if len(got) != Size || Hex(got) != c.digest {
			t.Errorf("%d bytes: %x", len(c.message), got)
		}
	}
	if Size != 32 || Sum(nil) != Sum([]byte{}) {
		t.Errorf("Size is %d, the digest of nil %x", Size, Sum(nil))
	}
}

// P3.1: messages of all lengths around one to five blocks, with the paddings of all lengths.
func TestSumOfAllLengths(t *testing.T) {
	source := rand.New(rand.NewSource(1))
	for n := range 330 {
		b := randomBytes(source, n)
		before := bytes.Clone(b)
		checkSum(t, "Sum", Sum(b), b)
		if !bytes.Equal(b, before) {
			t.Fatalf("Sum modifies %d bytes", n)
		}
		checkSum(t, "Sum of equal bytes", Sum(bytes.Repeat([]byte{0xff}, n)), bytes.Repeat([]byte{0xff}, n))
	}
	long := randomBytes(source, 1<<20+17)
	checkSum(t, "Sum", Sum(long), long)
}

// P3.1: the length in bits needs more than 32 bits.
func TestSumOfLongMessage(t *testing.T) {
	part := randomBytes(rand.New(rand.NewSource(8)), 1<<20)
	s, other := New(), standard.New()
	for range 1<<9 + 1 {
		s.Write(part)
		other.Write(part)
	}
	if s.Len() != len(part)*(1<<9+1) || s.Sum() != string(other.Sum(nil)) {
		t.Errorf("%d bytes: %x", s.Len(), s.Sum())
	}
}

// P3.2: a new state has no bytes.
func TestNew(t *testing.T) {
	s := New()
	if s.Len() != 0 || s.Sum() != Sum(nil) {
		t.Errorf("a new state: %d bytes, %x", s.Len(), s.Sum())
	}
	s.Write(nil)
	s.Write([]byte{})
	if s.Len() != 0 || s.Sum() != Sum(nil) {
		t.Errorf("a state to which nothing was written: %d bytes, %x", s.Len(), s.Sum())
	}
	s.Write([]byte("x"))
	if other := New(); other.Len() != 0 || other.Sum() != Sum(nil) {
		t.Error("two new states are not independent")
	}
}

// P3.2: it does not matter how the bytes are divided, nor whether Sum is called in between.
func TestWriteInTwoCalls(t *testing.T) {
	b := randomBytes(rand.New(rand.NewSource(2)), 200)
	for first := range len(b) + 1 {
		s := New()
		s.Write(b[:first])
		if s.Len() != first {
			t.Fatalf("Len is %d instead of %d", s.Len(), first)
		}
		checkSum(t, "the first part", s.Sum(), b[:first])
		checkSum(t, "Sum again", s.Sum(), b[:first])
		s.Write(b[first:])
		if s.Len() != len(b) {
			t.Fatalf("Len is %d instead of %d", s.Len(), len(b))
		}
		checkSum(t, "both parts", s.Sum(), b)
	}
}

func TestWriteAtRandom(t *testing.T) {
	source := rand.New(rand.NewSource(3))
	for range 300 {
		s := New()
		var all []byte
		for range source.Intn(20) {
			part := randomBytes(source, source.Intn(150))
			all = append(all, part...)
			s.Write(part)
			if source.Intn(3) == 0 {
				checkSum(t, "in between", s.Sum(), all)
			}
		}
		if s.Len() != len(all) {
			t.Fatalf("Len is %d instead of %d", s.Len(), len(all))
		}
		checkSum(t, "at last", s.Sum(), all)
	}
}

// P3.2: single bytes.
func TestWriteBytewise(t *testing.T) {
	b := randomBytes(rand.New(rand.NewSource(4)), 300)
	s := New()
	for i, c := range b {
		s.Write([]byte{c})
		if s.Len() != i+1 {
			t.Fatalf("Len is %d instead of %d", s.Len(), i+1)
		}
		checkSum(t, "single bytes", s.Sum(), b[:i+1])
	}
}

// P3.2: Write neither modifies b nor keeps it.
func TestWriteKeepsNothing(t *testing.T) {
	for _, n := range []int{1, 63, 64, 65, 200} {
		b := randomBytes(rand.New(rand.NewSource(5)), n)
		before := bytes.Clone(b)
		s := New()
		s.Write(b)
		if !bytes.Equal(b, before) {
			t.Fatalf("Write modifies %d bytes", n)
		}
		for i := range b {
			b[i]++
		}
		checkSum(t, "after a change", s.Sum(), before)
	}
}

// P3.3: a clone has the same bytes, and neither of the two affects the other.
func TestClone(t *testing.T) {
	b := randomBytes(rand.New(rand.NewSource(6)), 400)
	for n := range 200 {
		s := New()
		s.Write(b[:n])
		c := s.Clone()
		if c.Len() != n {
			t.Fatalf("the clone has %d bytes instead of %d", c.Len(), n)
		}
		checkSum(t, "the clone", c.Sum(), b[:n])
		c.Write(b[200:330])
		checkSum(t, "the original", s.Sum(), b[:n])
		s.Write(b[n:])
		checkSum(t, "the changed clone", c.Sum(), append(bytes.Clone(b[:n]), b[200:330]...))
		checkSum(t, "the changed original", s.Sum(), b)
		if s.Len() != len(b) || c.Len() != n+130 {
			t.Fatalf("the lengths are %d and %d", s.Len(), c.Len())
		}
		again := c.Clone().Clone()
		checkSum(t, "the clone of a clone", again.Sum(), append(bytes.Clone(b[:n]), b[200:330]...))
	}
}

// P3.4: two digits for each byte.
func TestHex(t *testing.T) {
	for _, c := range []struct{ b, want string }{
		{"", ""}, {"\x00\xff", "00ff"}, {"\x0f", "0f"}, {"\xf0", "f0"}, {"\x9a\xa9", "9aa9"}, {"abc", "616263"}, {"é", "c3a9"},
	} {
		if got := Hex(c.b); got != c.want {
			t.Errorf("Hex(%q): %q", c.b, got)
		}
	}
	all := ""
	for c := range 256 {
		all += string([]byte{byte(c)})
	}
	if got := Hex(all); got != hex.EncodeToString([]byte(all)) {
		t.Errorf("Hex of all bytes: %q", got)
	}
	if b, ok := Unhex(Hex(all)); !ok || b != all {
		t.Errorf("Unhex of all bytes: %q, %v", b, ok)
	}
}

// P3.5: all strings of two bytes.
func TestUnhexOfTwo(t *testing.T) {
	results := map[string]string{}
	for c := range 256 {
		b := string([]byte{byte(c)})
		results[Hex(b)] = b
	}
	for i := range 1 << 16 {
		s := string([]byte{byte(i >> 8), byte(i)})
		want, is := results[s]
		if got, ok := Unhex(s); ok != is || got != want {
			t.Fatalf("Unhex(%q): %q, %v", s, got, ok)
		}
	}
}

// P3.5, and the errors.
func TestUnhex(t *testing.T) {
	for _, c := range []struct {
		s, want string
		ok      bool
	}{
		{"", "", true}, {"00ff", "\x00\xff", true}, {"616263", "abc", true}, {"0123456789abcdef", "\x01\x23\x45\x67\x89\xab\xcd\xef", true},
		{"00fF", "", false}, {"0", "", false}, {"000", "", false}, {"00f", "", false}, {"0g", "", false}, {"g0", "", false}, {"AB", "", false},
		{"0x00", "", false}, {" 00", "", false}, {"00 ", "", false}, {"0011 2", "", false}, {"00\n0", "", false}, {"é", "", false}, {"-1", "", false},
		{"00/0", "", false}, {"00:0", "", false}, {"00`0", "", false}, {"00G0", "", false}, {"00@0", "", false}, {"\x00\x00", "", false}, {"\xff\xff", "", false},
	} {
		if got, ok := Unhex(c.s); got != c.want || ok != c.ok {
			t.Errorf("Unhex(%q): %q, %v", c.s, got, ok)
		}
	}
	source := rand.New(rand.NewSource(7))
	for range 500 {
		b := string(randomBytes(source, source.Intn(100)))
		if got, ok := Unhex(Hex(b)); !ok || got != b {
			t.Fatalf("Unhex(Hex(%q)): %q, %v", b, got, ok)
		}
	}
}
