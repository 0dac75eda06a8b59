package nat

const (
	digits    = "0123456789abcdef"
	digitBits = 4
	perLimb   = limbBits / digitBits
)

// Hex returns the hexadecimal digits of the number, most significant first.
func Hex(a []uint64) string {
	n := max(1, (BitLen(a)+digitBits-1)/digitBits)
	out := make([]byte, n)
	for i := range n {
		out[n-1-i] = digits[digitAt(a, i)]
	}
	return string(out)
}

// Parse returns the number that s denotes and true, or nothing and false if s
// is not made of one or more hexadecimal digits.
func Parse(s string) ([]uint64, bool) {
	if len(s) == 0 {
		return nil, false
	}
	out := make([]uint64, (len(s)+perLimb-1)/perLimb)
	for i := range len(s) {
		d, ok := digitValue(s[len(s)-1-i])
		if !ok {
			return nil, false
		}
		out[i/perLimb] |= d << (i % perLimb * digitBits)
	}
	return trim(out), true
}

// digitAt returns digit i, counted from the least significant; 0 has one too,
// though it has no limb to hold it.
func digitAt(a []uint64, i int) uint64 {
	if i/perLimb >= len(a) {
		return 0
	}
	return a[i/perLimb] >> (i % perLimb * digitBits) & (1<<digitBits - 1)
}

func digitValue(c byte) (uint64, bool) {
	switch {
	case '0' <= c && c <= '9':
		return uint64(c - '0'), true
	case 'a' <= c && c <= 'f':
		return uint64(c-'a') + 10, true
	case 'A' <= c && c <= 'F':
		return uint64(c-'A') + 10, true
	}
	return 0, false
}
