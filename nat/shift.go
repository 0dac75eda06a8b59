package nat

const maxShift = 8192

// Shl returns a times 2^n.
func Shl(a []uint64, n int) []uint64 {
	a, n = trim(a), shiftCount(n)
	if len(a) == 0 {
		return nil
	}
	whole := n / limbBits
	out := make([]uint64, whole+len(a)+1)
	shiftUp(out[whole:], a, n%limbBits)
	return trim(out)
}

// Shr returns a divided by 2^n, rounded down.
func Shr(a []uint64, n int) []uint64 {
	a, n = trim(a), shiftCount(n)
	whole := n / limbBits
	if whole >= len(a) {
		return nil
	}
	out := make([]uint64, len(a)-whole)
	shiftDown(out, a[whole:], n%limbBits)
	return trim(out)
}

func shiftCount(n int) int {
	return min(max(n, 0), maxShift)
}

// shiftUp puts a times 2^n, for n below 64, into out of one limb more than a.
func shiftUp(out, a []uint64, n int) {
	below := uint64(0)
	for i := range len(a) {
		out[i] = a[i]<<n | below
		below = a[i] >> (limbBits - n)
	}
	out[len(a)] = below
}

// shiftDown puts a divided by 2^n, for n below 64, into out of as many limbs.
func shiftDown(out, a []uint64, n int) {
	above := uint64(0)
	for i := range len(a) {
		k := len(a) - 1 - i
		out[k] = a[k]>>n | above
		above = a[k] << (limbBits - n)
	}
}
