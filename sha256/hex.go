package sha256

// digits are the hexadecimal digits in the order of their numbers.
const digits = "0123456789abcdef"

// Hex returns the bytes of b as lower-case hexadecimal digits, two per byte.
func Hex(b string) string {
	text := make([]byte, 0, 2*len(b))
	for i := range len(b) {
		text = append(text, digits[b[i]>>4], digits[b[i]&15])
	}
	return string(text)
}

// Unhex is the inverse of Hex. It returns false if s is not a result of Hex.
func Unhex(s string) (string, bool) {
	if len(s)%2 != 0 {
		return "", false
	}
	b := make([]byte, 0, len(s)/2)
	for i := 0; i < len(s); i += 2 {
		high, ok1 := digit(s[i])
		low, ok2 := digit(s[i+1])
		if !ok1 || !ok2 {
			return "", false
		}
		b = append(b, high<<4|low)
	}
	return string(b), true
}

// digit returns the number that c stands for, or false if c is not a digit of Hex.
func digit(c byte) (byte, bool) {
	switch {
	case '0' <= c && c <= '9':
		return c - '0', true
	case 'a' <= c && c <= 'f':
		return c - 'a' + 10, true
	}
	return 0, false
}
