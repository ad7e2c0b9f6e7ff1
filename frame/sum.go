package frame

// polynomial has the coefficients of the polynomial of CRC-32, the highest one in the lowest bit.
const polynomial = 0xedb88320

// Sum returns the CRC-32 of b.
func Sum(b []byte) uint32 {
	sum := ^uint32(0)
	for _, next := range b {
		sum ^= uint32(next)
		for range 8 {
			// The negative of the bit that is shifted out has all bits, or none.
			sum = sum>>1 ^ polynomial&-(sum&1)
		}
	}
	return ^sum
}

// sealed appends the sum of a payload to it, the lowest byte first.
func sealed(data []byte) []byte {
	sum := Sum(data)
	for i := range sumSize {
		data = append(data, byte(sum>>(8*i)))
	}
	return data
}

// opened returns the payload of a frame without a copy, and whether its sum follows.
func opened(b []byte) ([]byte, bool) {
	size := len(b) - sumSize
	if size < 0 {
		return nil, false
	}
	sum := Sum(b[:size])
	for i, next := range b[size:] {
		if next != byte(sum>>(8*i)) {
			return nil, false
		}
	}
	return b[:size], true
}
