package checkpoint

import "plexus/sha256"

// maxGeneration is the greatest generation.
const maxGeneration = 1 << 62

// The ends of the numbers of a header, and of the digest behind them.
const (
	generationEnd = 8
	numbersEnd    = generationEnd + 4
	headerEnd     = numbersEnd + sha256.Size
)

// encode returns the header of a checkpoint, without the zeros behind it.
func encode(b []byte, generation int64) []byte {
	var header [headerEnd]byte
	putNumber(header[:generationEnd], uint64(generation))
	putNumber(header[generationEnd:numbersEnd], uint64(len(b)))
	digest := sha256.New()
	digest.Write(header[:numbersEnd])
	digest.Write(b)
	copy(header[numbersEnd:], digest.Sum())
	return header[:]
}

// parse returns the generation and the length of the checkpoint that a sector names, if it is a header.
func parse(sector []byte) (generation, length uint64) {
	return number(sector[:generationEnd]), number(sector[generationEnd:numbersEnd])
}

// putNumber fills b with a number, the highest byte first.
func putNumber(b []byte, n uint64) {
	for i := range b {
		b[len(b)-1-i] = byte(n >> (8 * i))
	}
}

// number returns the number that fills b, the highest byte first.
func number(b []byte) uint64 {
	var n uint64
	for _, x := range b {
		n = n<<8 | uint64(x)
	}
	return n
}
