package sha256

// rounds is the number of words to which the words of a block are extended.
const rounds = 64

// initial is the state before the first block.
var initial = [8]uint32{
	0x6a09e667, 0xbb67ae85, 0x3c6ef372, 0xa54ff53a, 0x510e527f, 0x9b05688c, 0x1f83d9ab, 0x5be0cd19,
}

// constants are the numbers k of the definition.
var constants = [rounds]uint32{
	0x428a2f98, 0x71374491, 0xb5c0fbcf, 0xe9b5dba5, 0x3956c25b, 0x59f111f1, 0x923f82a4, 0xab1c5ed5,
	0xd807aa98, 0x12835b01, 0x243185be, 0x550c7dc3, 0x72be5d74, 0x80deb1fe, 0x9bdc06a7, 0xc19bf174,
	0xe49b69c1, 0xefbe4786, 0x0fc19dc6, 0x240ca1cc, 0x2de92c6f, 0x4a7484aa, 0x5cb0a9dc, 0x76f988da,
	0x983e5152, 0xa831c66d, 0xb00327c8, 0xbf597fc7, 0xc6e00bf3, 0xd5a79147, 0x06ca6351, 0x14292967,
	0x27b70a85, 0x2e1b2138, 0x4d2c6dfc, 0x53380d13, 0x650a7354, 0x766a0abb, 0x81c2c92e, 0x92722c85,
	0xa2bfe8a1, 0xa81a664b, 0xc24b8b70, 0xc76c51a3, 0xd192e819, 0xd6990624, 0xf40e3585, 0x106aa070,
	0x19a4c116, 0x1e376c08, 0x2748774c, 0x34b0bcb5, 0x391c0cb3, 0x4ed8aa4a, 0x5b9cca4f, 0x682e6ff3,
	0x748f82ee, 0x78a5636f, 0x84c87814, 0x8cc70208, 0x90befffa, 0xa4506ceb, 0xbef9a3f7, 0xc67178f2,
}

// mix returns the state that a block makes of the state before it.
func mix(state [8]uint32, block *[blockSize]byte) [8]uint32 {
	w := extend(block)
	a, b, c, d := state[0], state[1], state[2], state[3]
	e, f, g, h := state[4], state[5], state[6], state[7]
	for t := range rounds {
		t1 := h + upper1(e) + choose(e, f, g) + constants[t] + w[t]
		t2 := upper0(a) + majority(a, b, c)
		h, g, f, e, d, c, b, a = g, f, e, d+t1, c, b, a, t1+t2
	}
	return [8]uint32{
		state[0] + a, state[1] + b, state[2] + c, state[3] + d,
		state[4] + e, state[5] + f, state[6] + g, state[7] + h,
	}
}

// extend returns the words of a block, and those that are computed from them.
func extend(block *[blockSize]byte) [rounds]uint32 {
	var w [rounds]uint32
	for t := range blockSize / 4 {
		w[t] = uint32(block[4*t])<<24 | uint32(block[4*t+1])<<16 | uint32(block[4*t+2])<<8 | uint32(block[4*t+3])
	}
	for t := blockSize / 4; t < rounds; t++ {
		w[t] = lower1(w[t-2]) + w[t-7] + lower0(w[t-15]) + w[t-16]
	}
	return w
}

// rotate is rotr of the definition, for n from 1 to 31.
func rotate(x uint32, n uint) uint32 { return x>>n | x<<(32-n) }

// upper0 and upper1 are S0 and S1 of the definition, lower0 and lower1 are s0 and s1.
func upper0(x uint32) uint32 { return rotate(x, 2) ^ rotate(x, 13) ^ rotate(x, 22) }
func upper1(x uint32) uint32 { return rotate(x, 6) ^ rotate(x, 11) ^ rotate(x, 25) }
func lower0(x uint32) uint32 { return rotate(x, 7) ^ rotate(x, 18) ^ x>>3 }
func lower1(x uint32) uint32 { return rotate(x, 17) ^ rotate(x, 19) ^ x>>10 }

// choose and majority are ch and maj of the definition.
func choose(x, y, z uint32) uint32   { return x&y ^ ^x&z }
func majority(x, y, z uint32) uint32 { return x&y ^ x&z ^ y&z }
