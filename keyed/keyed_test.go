package keyed

import (
	"bytes"
	"crypto/hmac"
	standard "crypto/sha256"
	"encoding/hex"
	"math"
	"math/rand"
	"strings"
	"testing"

	"plexus/sha256"
)

// randomBytes returns n bytes.
func randomBytes(source *rand.Rand, n int) []byte {
	b := make([]byte, n)
	source.Read(b)
	return b
}

// standardTag is the tag that the standard library computes.
func standardTag(key, message []byte) []byte {
	h := hmac.New(standard.New, key)
	h.Write(message)
	return h.Sum(nil)
}

// P5.1: the test cases of RFC 4231, the example 1 among them. The fifth one is of a truncated tag.
func TestTag(t *testing.T) {
	longKey := strings.Repeat("\xaa", 131)
	for i, c := range []struct{ key, message, want string }{
		{strings.Repeat("\x0b", 20), "Hi There", "b0344c61d8db38535ca8afceaf0bf12b881dc200c9833da726e9376c2e32cff7"},
		{"Jefe", "what do ya want for nothing?", "5bdcc146bf60754e6a042426089575c75a003f089d2739839dec58b964ec3843"},
		{strings.Repeat("\xaa", 20), strings.Repeat("\xdd", 50), "773ea91e36800e46854db8ebd09181a72959098b3ef8c122d9635514ced565fe"},
		{"\x01\x02\x03\x04\x05\x06\x07\x08\x09\x0a\x0b\x0c\x0d\x0e\x0f\x10\x11\x12\x13\x14\x15\x16\x17\x18\x19", strings.Repeat("\xcd", 50), "82558a389a443c0ea4cc819899f2083a85f0faa3e578f8077a2e3ff46729665b"},
		{longKey, "Test Using Larger Than Block-Size Key - Hash Key First", "60e431591ee0b67f0d8a26aacbf5b77f8e0bc6213728c5140546040f0ee37f54"},
		{longKey, "This is a test using a larger than block-size key and a larger than block-size data. The key needs to be hashed before being used by the HMAC algorithm.", "9b09ffa71b942fcb27635fbcd5b0e944bfdc63644f0713938a7f51535c3a35e2"},
	} {
		if got := hex.EncodeToString(Tag([]byte(c.key), []byte(c.message))); got != c.want {
			t.Errorf("the case %d: %s instead of %s", i, got, c.want)
		}
	}
}

// P5.1: keys of all lengths around one and two blocks, compared with the standard library.
func TestTagOfAllLengths(t *testing.T) {
	source := rand.New(rand.NewSource(1))
	for n := range 200 {
		key := randomBytes(source, n)
		for _, length := range []int{0, 1, 54, 55, 56, 63, 64, 65, 119, 120, 128, source.Intn(500)} {
			message := randomBytes(source, length)
			if got, want := Tag(key, message), standardTag(key, message); !bytes.Equal(got, want) {
				t.Fatalf("a key of %d and a message of %d bytes: %x instead of %x", n, length, got, want)
			}
		}
	}
	key, long := randomBytes(source, 1<<20+3), randomBytes(source, 1<<20+5)
	if !bytes.Equal(Tag(key, long), standardTag(key, long)) {
		t.Error("a key and a message of 2^20 bytes")
	}
}

// P5.1: nil and empty arguments are equivalent.
func TestTagOfNothing(t *testing.T) {
	want := standardTag(nil, nil)
	for _, key := range [][]byte{nil, {}} {
		for _, message := range [][]byte{nil, {}} {
			if got := Tag(key, message); len(got) != 32 || !bytes.Equal(got, want) {
				t.Errorf("Tag(%v, %v): %x instead of %x", key, message, got, want)
			}
		}
	}
	if !bytes.Equal(Derive(nil, 1, 2), Derive([]byte{}, 1, 2)) {
		t.Error("the key of no master secret")
	}
}

// P5.1 and P5.5: which keys have the same tags.
func TestEquivalentKeys(t *testing.T) {
	source := rand.New(rand.NewSource(2))
	message := []byte("message")
	for n := range 140 {
		key := bytes.Repeat([]byte{byte(source.Intn(255) + 1)}, n)
		longer := append(bytes.Clone(key), 0)
		if same := bytes.Equal(Tag(key, message), Tag(longer, message)); same != (n < 64) {
			t.Errorf("a key of %d bytes and the same key followed by a zero: %v", n, same)
		}
		digest := []byte(sha256.Sum(key))
		if same := bytes.Equal(Tag(key, message), Tag(digest, message)); same != (n > 64) {
			t.Errorf("a key of %d bytes and its digest: %v", n, same)
		}
	}
}

// zigzags are numbers with their encodings.
var zigzags = []struct {
	n        int
	encoding string
}{
	{0, "\x00"}, {-1, "\x01"}, {1, "\x02"}, {-2, "\x03"}, {3, "\x06"}, {63, "\x7e"}, {-64, "\x7f"}, {64, "\x80\x01"}, {1 << 31, "\x80\x80\x80\x80\x10"},
	{math.MaxInt, "\xfe\xff\xff\xff\xff\xff\xff\xff\xff\x01"}, {math.MinInt, "\xff\xff\xff\xff\xff\xff\xff\xff\xff\x01"},
}

// P5.1: the message from which a key is derived, for all numbers.
func TestDerive(t *testing.T) {
	for _, master := range []string{"", "secret", strings.Repeat("long", 30)} {
		keys := map[string]bool{}
		for _, process := range zigzags {
			for _, height := range zigzags {
				message := "\x03key" + process.encoding + height.encoding
				got := Derive([]byte(master), process.n, height.n)
				if want := standardTag([]byte(master), []byte(message)); !bytes.Equal(got, want) {
					t.Errorf("Derive(%q, %d, %d): %x instead of %x", master, process.n, height.n, got, want)
				}
				keys[string(got)] = true
			}
		}
		if len(keys) != len(zigzags)*len(zigzags) {
			t.Errorf("the master secret %q has %d different keys", master, len(keys))
		}
	}
}

// The rules: the arguments are not modified, and the results are new memory.
func TestTagSharesNothing(t *testing.T) {
	for _, n := range []int{0, 5, 32, 64, 100} {
		fullKey, fullMessage := bytes.Repeat([]byte{7}, n+8), bytes.Repeat([]byte{9}, n+8)
		key, message := fullKey[:n], fullMessage[:n]
		first, derived := Tag(key, message), Derive(key, 1, 2)
		wanted := [][]byte{bytes.Clone(first), bytes.Clone(derived)}
		for _, result := range [][]byte{first, derived} {
			for i := range result {
				result[i]++
			}
			_ = append(result, 1)
		}
		if !bytes.Equal(fullKey, bytes.Repeat([]byte{7}, n+8)) || !bytes.Equal(fullMessage, bytes.Repeat([]byte{9}, n+8)) {
			t.Errorf("%d bytes: an argument was modified", n)
		}
		if !bytes.Equal(Tag(key, message), wanted[0]) || !bytes.Equal(Derive(key, 1, 2), wanted[1]) {
			t.Errorf("%d bytes: a change of a result has an effect", n)
		}
	}
}
