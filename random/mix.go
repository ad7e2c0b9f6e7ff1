package random

// The factors of Mix, and their inverses modulo 2^64.
const (
	factor1  = 0xbf58476d1ce4e5b9
	factor2  = 0x94d049bb133111eb
	inverse1 = 0x96de1b173f119089
	inverse2 = 0x319642b2d24d8ec3
)

// The distances by which Mix shifts.
const (
	shift1 = 30
	shift2 = 27
	shift3 = 31
)

// Mix returns the output for the state x.
func Mix(x uint64) uint64 {
	z := fold(x, shift1) * factor1
	z = fold(z, shift2) * factor2
	return fold(z, shift3)
}

// Unmix returns the state for which Mix returns y.
func Unmix(y uint64) uint64 {
	z := unfold(y, shift3) * inverse2
	z = unfold(z, shift2) * inverse1
	return unfold(z, shift1)
}

// fold combines x with its upper bits.
func fold(x uint64, shift uint) uint64 { return x ^ x>>shift }

// unfold is the inverse of fold for the shifts of Mix. Three times such a shift is more than 64, so the sum ends with the second one.
func unfold(y uint64, shift uint) uint64 { return y ^ y>>shift ^ y>>(2*shift) }
