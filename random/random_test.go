package random

import (
	"math"
	"math/big"
	"math/rand"
	"slices"
	"testing"

	"plexus/api"
)

// edgeNumbers are numbers of 64 bits with few or many bits, and around the bounds of int.
func edgeNumbers() []uint64 {
	list := []uint64{0, math.MaxUint64, 12345678901234567890, increment}
	for i := range 64 {
		bit := uint64(1) << i
		list = append(list, bit, bit-1, bit+1, ^bit)
	}
	return list
}

// modulus is 2^64.
var modulus = new(big.Int).Lsh(big.NewInt(1), 64)

// natural returns x as a natural number.
func natural(x uint64) *big.Int { return new(big.Int).SetUint64(x) }

// times returns x * y modulo 2^64.
func times(x, y *big.Int) *big.Int {
	product := new(big.Int).Mul(x, y)
	return product.Mod(product, modulus)
}

// wantMix is the definition, computed with natural numbers.
func wantMix(x uint64) uint64 {
	folded := func(z *big.Int, shift uint) *big.Int {
		return new(big.Int).Xor(z, new(big.Int).Rsh(z, shift))
	}
	z := times(folded(natural(x), 30), natural(0xbf58476d1ce4e5b9))
	z = times(folded(z, 27), natural(0x94d049bb133111eb))
	return folded(z, 31).Uint64()
}

// P6.1: the known outputs of two seeds, the example 1 among them.
func TestNext(t *testing.T) {
	for _, c := range []struct {
		seed    uint64
		outputs []uint64
	}{
		{0, []uint64{0xe220a8397b1dcdaf, 0x6e789e6aa1b965f4, 0x06c45d188009454f, 0xf88bb8a8724c81ec, 0x1b39896a51a8749b}},
		{1234567, []uint64{6457827717110365317, 3203168211198807973, 9817491932198370423, 4593380528125082431, 16408922859458223821}},
	} {
		s := New(c.seed)
		for i, want := range c.outputs {
			if got := s.Next(); got != want {
				t.Errorf("the output %d of the seed %d: %d instead of %d", i, c.seed, got, want)
			}
		}
	}
}

// P6.1: the first outputs of all seeds, by the definition.
func TestNextOfAllSeeds(t *testing.T) {
	for _, seed := range edgeNumbers() {
		s, other := New(seed), New(seed)
		state := seed
		for i := range 20 {
			state += 0x9e3779b97f4a7c15
			if got := s.Next(); got != wantMix(state) || other.Next() != got {
				t.Fatalf("the output %d of the seed %d: %d", i, seed, got)
			}
		}
	}
}

// P6.1: Skip(n) is n calls of Next.
func TestSkip(t *testing.T) {
	for _, seed := range edgeNumbers() {
		called := New(seed)
		for n := range uint64(40) {
			skipped := New(seed)
			skipped.Skip(n)
			if *skipped != *called {
				t.Fatalf("Skip(%d) from the seed %d", n, seed)
			}
			called.Next()
		}
	}
}

// P6.1: any number of calls, up to 2^64 - 1, which is one call backwards.
func TestSkipFar(t *testing.T) {
	for _, n := range edgeNumbers() {
		s := New(77)
		s.Skip(n)
		far := New(77 + times(natural(n), natural(0x9e3779b97f4a7c15)).Uint64())
		if *s != *far {
			t.Errorf("Skip(%d)", n)
		}
		s.Skip(-n)
		if got, want := s.Next(), New(77).Next(); got != want {
			t.Errorf("Skip(%d) and back: %d instead of %d", n, got, want)
		}
	}
	s := New(5)
	first := s.Next()
	s.Next()
	s.Skip(math.MaxUint64 - 1)
	if got := s.Next(); got != first {
		t.Errorf("two calls backwards: %d instead of %d", got, first)
	}
}

// P6.2: Mix by its definition, and its inverse.
func TestMix(t *testing.T) {
	source := rand.New(rand.NewSource(1))
	list := edgeNumbers()
	for range 5000 {
		list = append(list, source.Uint64())
	}
	for _, x := range list {
		if got := Mix(x); got != wantMix(x) {
			t.Fatalf("Mix(%d): %d instead of %d", x, got, wantMix(x))
		}
		if Unmix(Mix(x)) != x || Mix(Unmix(x)) != x {
			t.Fatalf("Unmix(%d): %d, Unmix(Mix(%d)): %d", x, Unmix(x), x, Unmix(Mix(x)))
		}
	}
	if Mix(0) != 0 || Unmix(0) != 0 || Mix(0x9e3779b97f4a7c15) != 0xe220a8397b1dcdaf {
		t.Error("the example 1")
	}
}

// P6.3: the product with the next number, for small and for the greatest n.
func TestIntn(t *testing.T) {
	seeds := edgeNumbers()
	for _, x := range edgeNumbers() {
		// With this seed the next number is x.
		seeds = append(seeds, Unmix(x)-increment)
	}
	for _, seed := range seeds {
		for _, n := range []int{1, 2, 3, 6, 10, 52, 1000, 1<<31 - 1, 1 << 32, 1<<53 + 1, 1 << 62, math.MaxInt - 1, math.MaxInt} {
			s, other := New(seed), New(seed)
			product := new(big.Int).Mul(natural(other.Next()), big.NewInt(int64(n)))
			want := int(product.Rsh(product, 64).Int64())
			if got := s.Intn(n); got != want || got < 0 || got >= n || *s != *other {
				t.Fatalf("Intn(%d) from the seed %d: %d instead of %d", n, seed, got, want)
			}
		}
	}
}

// P6.3: for n below 1 there is no number, and the source stays.
func TestIntnOfNothing(t *testing.T) {
	s := New(0)
	for _, n := range []int{0, -1, -10, math.MinInt} {
		if got := s.Intn(n); got != 0 || *s != *New(0) {
			t.Errorf("Intn(%d): %d", n, got)
		}
	}
	if got := s.Intn(10); got != 8 {
		t.Errorf("the example 2: %d", got)
	}
}

// P6.4: the exchanges of the definition, and no other calls of the source.
func TestShuffle(t *testing.T) {
	for _, seed := range []uint64{0, 1, 77, math.MaxUint64} {
		for _, n := range []int{0, 1, 2, 3, 4, 5, 20, 100, 9999, 10000} {
			s, other := New(seed), New(seed)
			got, e := s.Shuffle(n)
			want := make([]int, n)
			for i := range want {
				want[i] = i
			}
			for i := n - 1; i >= 1; i-- {
				k := other.Intn(i + 1)
				want[i], want[k] = want[k], want[i]
			}
			if e != api.OK || !slices.Equal(got, want) || *s != *other {
				t.Errorf("Shuffle(%d) from the seed %d: %d numbers, %d", n, seed, len(got), e)
			}
			slices.Sort(got)
			for i, element := range got {
				if element != i {
					t.Fatalf("Shuffle(%d) from the seed %d is no permutation", n, seed)
				}
			}
		}
	}
	if p, e := New(0).Shuffle(3); e != api.OK || !slices.Equal(p, []int{1, 0, 2}) {
		t.Errorf("the example 2: %v, %d", p, e)
	}
}

// P6.4, and the error of Shuffle: the source does not advance.
func TestShuffleErrors(t *testing.T) {
	s := New(9)
	for _, n := range []int{-1, 10001, math.MinInt, math.MaxInt, -10000} {
		if p, e := s.Shuffle(n); e != api.ErrArgument || len(p) != 0 || *s != *New(9) {
			t.Errorf("Shuffle(%d): %d numbers, %d", n, len(p), e)
		}
	}
	a, _ := s.Shuffle(50)
	b, _ := s.Shuffle(50)
	again, _ := New(9).Shuffle(50)
	clear(b)
	if !slices.Equal(a, again) {
		t.Error("two results share memory")
	}
}

// P6.5: the state of the new source is the next number, and the sources are independent.
func TestSplit(t *testing.T) {
	for _, seed := range edgeNumbers() {
		s, other := New(seed), New(seed)
		child := s.Split()
		want := New(other.Next())
		if *child != *want || *s != *other {
			t.Fatalf("Split of the seed %d", seed)
		}
		for range 5 {
			if child.Next() != want.Next() {
				t.Fatalf("the new source of the seed %d", seed)
			}
		}
		if *s != *other {
			t.Fatalf("the new source of the seed %d advances the old one", seed)
		}
		s.Skip(3)
		if *child != *want {
			t.Fatalf("the old source of the seed %d advances the new one", seed)
		}
	}
	if s := New(0); s.Split().Next() != New(0xe220a8397b1dcdaf).Next() || s.Next() != 0x6e789e6aa1b965f4 {
		t.Error("Split of the seed 0")
	}
}
