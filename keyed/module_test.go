package keyed

import (
	"bytes"
	"math"
	"math/rand"
	"reflect"
	"slices"
	"testing"

	"plexus/api"
)

// someNumbers are processes and heights.
var someNumbers = []int{0, 1, -1, 2, 3, 9, 16, 63, 64, 1 << 31, -1 << 31, math.MaxInt, math.MinInt}

// wantTag is the tag of the definition.
func wantTag(master []byte, process, height int, message []byte) []byte {
	return Tag(Derive(master, process, height), message)
}

// P5.2: any number, and the height 0.
func TestNew(t *testing.T) {
	for _, process := range someNumbers {
		for _, master := range [][]byte{nil, []byte("secret")} {
			m := New(master, process)
			if m.Process() != process || m.Height() != 0 {
				t.Errorf("the module of %d: the process %d at the height %d", process, m.Process(), m.Height())
			}
		}
	}
}

// P5.2: Raise, compared with the greatest height so far.
func TestRaise(t *testing.T) {
	m := New([]byte("secret"), 5)
	for _, c := range []struct{ height, want int }{
		{0, 0}, {-1, 0}, {math.MinInt, 0}, {1, 1}, {1, 1}, {0, 1}, {4, 4}, {3, 4}, {-4, 4}, {math.MaxInt - 1, math.MaxInt - 1}, {math.MaxInt, math.MaxInt}, {7, math.MaxInt}, {math.MinInt, math.MaxInt},
	} {
		m.Raise(c.height)
		if m.Height() != c.want || m.Process() != 5 {
			t.Errorf("after Raise(%d): the process %d at the height %d instead of %d", c.height, m.Process(), m.Height(), c.want)
		}
	}
	source := rand.New(rand.NewSource(1))
	m, greatest := New(nil, 0), 0
	for range 500 {
		height := int(source.Uint64()) >> source.Intn(64)
		m.Raise(height)
		greatest = max(greatest, height)
		if m.Height() != greatest {
			t.Fatalf("the height is %d instead of %d", m.Height(), greatest)
		}
	}
}

// P5.2: each module has a height of its own.
func TestModulesAreIndependent(t *testing.T) {
	a, b := New([]byte("secret"), 1), New([]byte("secret"), 1)
	a.Raise(3)
	if a.Height() != 3 || b.Height() != 0 {
		t.Errorf("the heights are %d and %d", a.Height(), b.Height())
	}
	if _, e := b.Sign(0, nil); e != api.OK {
		t.Errorf("the other module refuses to sign: %d", e)
	}
}

// P5.3: the tags of all processes at all heights.
func TestSign(t *testing.T) {
	master, messages := []byte("secret"), [][]byte{nil, []byte("x"), bytes.Repeat([]byte("long"), 50)}
	for _, process := range someNumbers {
		m := New(master, process)
		for _, height := range someNumbers {
			for _, message := range messages {
				tag, e := m.Sign(height, message)
				if height < 0 {
					if e != api.ErrArgument || len(tag) != 0 {
						t.Errorf("the process %d at the height %d: %x, %d", process, height, tag, e)
					}
				} else if e != api.OK || !bytes.Equal(tag, wantTag(master, process, height, message)) {
					t.Errorf("the process %d at the height %d: %x, %d", process, height, tag, e)
				}
			}
			if m.Height() != 0 || m.Process() != process {
				t.Fatalf("Sign at %d changes the height to %d", height, m.Height())
			}
		}
	}
}

// P5.3 and the errors of Sign: below its height a raised module signs nothing; a negative height is ErrArgument, also there.
func TestSignOfRaised(t *testing.T) {
	master, message := []byte("secret"), []byte("x")
	for _, raised := range []int{0, 1, 2, 9, math.MaxInt} {
		m := New(master, 3)
		m.Raise(raised)
		for _, height := range []int{math.MinInt, -9, -1, 0, 1, 2, 3, 8, 9, 10, math.MaxInt - 1, math.MaxInt} {
			want, wantError := wantTag(master, 3, height, message), api.OK
			if height < 0 {
				want, wantError = nil, api.ErrArgument
			} else if height < raised {
				want, wantError = nil, api.ErrStale
			}
			if tag, e := m.Sign(height, message); e != wantError || !bytes.Equal(tag, want) || m.Height() != raised {
				t.Errorf("Sign at %d, raised to %d: %x, %d, then the height %d", height, raised, tag, e, m.Height())
			}
		}
	}
}

// P5.4 and P5.5: every module with the same master secret verifies, whatever its process and its height.
func TestVerify(t *testing.T) {
	master, message := []byte("secret"), []byte("x")
	for _, process := range someNumbers {
		for _, height := range someNumbers {
			tag := wantTag(master, process, height, message)
			for _, m := range []*Module{New(master, process), New(master, 4), New(master, -7)} {
				for _, raised := range []int{0, 2, math.MaxInt} {
					m.Raise(raised)
					if !m.Verify(process, height, message, tag) || m.Height() != raised {
						t.Errorf("the module of %d, raised to %d, does not verify the tag of %d at %d", m.Process(), raised, process, height)
					}
				}
			}
		}
	}
}

// P5.4: of another secret, process, height or message no tag is valid.
func TestVerifyOfOthers(t *testing.T) {
	master, message := []byte("secret"), []byte("x")
	for _, process := range someNumbers {
		for _, height := range someNumbers {
			tag := wantTag(master, process, height, message)
			for _, other := range someNumbers {
				m := New(master, other)
				if m.Verify(other, height, message, tag) != (other == process) || m.Verify(process, other, message, tag) != (other == height) {
					t.Errorf("the tag of %d at %d, with %d in place of one of them", process, height, other)
				}
			}
			for _, secret := range []string{"", "Secret", "secre", "secrett"} {
				if New([]byte(secret), process).Verify(process, height, message, tag) {
					t.Errorf("the tag of %d at %d is valid for the secret %q", process, height, secret)
				}
			}
			for _, other := range []string{"", "y", "xx", "x\x00", "\x00x"} {
				if New(master, process).Verify(process, height, []byte(other), tag) {
					t.Errorf("the tag of %d at %d is valid for the message %q", process, height, other)
				}
			}
		}
	}
}

// P5.4: all bytes of the tag count, and its length does.
func TestVerifyOfWrongTags(t *testing.T) {
	m, message := New([]byte("secret"), 3), []byte("x")
	tag, _ := m.Sign(2, message)
	if len(tag) != 32 || !m.Verify(3, 2, message, tag) {
		t.Fatalf("the tag %x", tag)
	}
	for i := range 8 * len(tag) {
		wrong := bytes.Clone(tag)
		wrong[i/8] ^= 1 << (i % 8)
		if m.Verify(3, 2, message, wrong) {
			t.Errorf("the bit %d does not count", i)
		}
	}
	for n := range tag {
		if m.Verify(3, 2, message, tag[:n]) || m.Verify(3, 2, message, tag[n+1:]) {
			t.Errorf("the first %d bytes, or those behind them, are valid", n)
		}
	}
	for _, wrong := range [][]byte{nil, {}, append(bytes.Clone(tag), 0), append([]byte{0}, tag...), slices.Concat(tag, tag), make([]byte, 32), Derive([]byte("secret"), 3, 2)} {
		if m.Verify(3, 2, message, wrong) {
			t.Errorf("the tag %x is valid", wrong)
		}
	}
}

// P5.2 to P5.5: the example 2.
func TestExample(t *testing.T) {
	m := New([]byte("secret"), 3)
	m.Raise(2)
	for _, c := range []struct {
		height int
		e      api.Errno
	}{{1, api.ErrStale}, {-1, api.ErrArgument}, {2, api.OK}, {9, api.OK}} {
		tag, e := m.Sign(c.height, []byte("x"))
		if e != c.e {
			t.Errorf("Sign at %d: %d", c.height, e)
		}
		for process := range 6 {
			other := New([]byte("secret"), process)
			if other.Verify(3, c.height, []byte("x"), tag) != (c.e == api.OK) {
				t.Errorf("the module of %d, for the tag at %d", process, c.height)
			}
		}
	}
}

// P5.5: modules whose master secrets differ by a zero at the end sign alike, unless the secrets are longer than a block.
func TestEquivalentSecrets(t *testing.T) {
	for _, n := range []int{0, 1, 32, 63, 64, 65} {
		master := bytes.Repeat([]byte{5}, n)
		tag, _ := New(master, 1).Sign(0, nil)
		if New(append(master, 0), 2).Verify(1, 0, nil, tag) != (n < 64) {
			t.Errorf("a master secret of %d bytes", n)
		}
	}
}

// The definition of a module: it copies the master secret and neither reveals nor modifies anything.
func TestModuleKeepsACopy(t *testing.T) {
	master, message := []byte("secret"), []byte("message")
	m := New(master, 1)
	tag, _ := m.Sign(0, message)
	want := bytes.Clone(tag)
	if !m.Verify(1, 0, message, tag) || string(master) != "secret" || string(message) != "message" || !bytes.Equal(tag, want) {
		t.Error("an argument was modified")
	}
	for _, b := range [][]byte{master, tag} {
		for i := range b {
			b[i]++
		}
	}
	if again, e := m.Sign(0, message); e != api.OK || !bytes.Equal(again, want) || !m.Verify(1, 0, message, want) {
		t.Errorf("after a change of the master secret: %x, %d", again, e)
	}
	message[0]++
	if again, _ := m.Sign(0, []byte("message")); !bytes.Equal(again, want) {
		t.Errorf("after a change of the message: %x", again)
	}
}

// The definition of a module: nothing of it but its process, its height and tags can be read.
func TestModuleReveals(t *testing.T) {
	module := reflect.TypeFor[*Module]()
	var names []string
	for i := range module.NumMethod() {
		names = append(names, module.Method(i).Name)
	}
	slices.Sort(names)
	if !slices.Equal(names, []string{"Height", "Process", "Raise", "Sign", "Verify"}) {
		t.Errorf("the methods are %q", names)
	}
	for i := range module.Elem().NumField() {
		if field := module.Elem().Field(i); field.IsExported() {
			t.Errorf("the field %s is exported", field.Name)
		}
	}
}
