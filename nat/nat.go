// Package nat is layer 1, natural numbers of any size: see shared/doc/01-nat.md.
//
// A number is a list of limbs, the least significant first. Every result is
// memory of its own, so that a caller may overwrite it and the arguments freely.
package nat

const (
	limbBits = 64
	halfBits = 32
	lowHalf  = 1<<halfBits - 1
)

// Norm returns the number without leading zero limbs.
func Norm(a []uint64) []uint64 {
	kept := trim(a)
	if len(kept) == 0 {
		return nil
	}
	out := make([]uint64, len(kept))
	copy(out, kept)
	return out
}

// Cmp returns -1, 0 or 1 if a is less than, equal to, or greater than b.
func Cmp(a, b []uint64) int {
	a, b = trim(a), trim(b)
	if len(a) != len(b) {
		return side(len(a) < len(b))
	}
	for i := range len(a) {
		k := len(a) - 1 - i
		if a[k] != b[k] {
			return side(a[k] < b[k])
		}
	}
	return 0
}

// BitLen returns the smallest n such that the number is less than 2^n.
func BitLen(a []uint64) int {
	a = trim(a)
	if len(a) == 0 {
		return 0
	}
	top := len(a) - 1
	return top*limbBits + limbLen(a[top])
}

// Bit reports whether bit i is 1.
func Bit(a []uint64, i int) bool {
	if i < 0 || i/limbBits >= len(a) {
		return false
	}
	return a[i/limbBits]>>(i%limbBits)&1 == 1
}

// trim cuts leading zero limbs off without copying: its result shares memory
// with a, so only lists that the package has made itself may be handed out so.
func trim(a []uint64) []uint64 {
	n := len(a)
	for n > 0 && a[n-1] == 0 {
		n--
	}
	if n == 0 {
		return nil
	}
	return a[:n]
}

// side is what Cmp returns for numbers that differ.
func side(less bool) int {
	if less {
		return -1
	}
	return 1
}

// limbLen is BitLen of a single limb. Each round halves the bits in which the
// highest 1 may be: after six of them x is that bit alone.
func limbLen(x uint64) int {
	n := 0
	for i := range 6 {
		step := halfBits >> i
		if x>>step != 0 {
			x >>= step
			n += step
		}
	}
	return n + int(x)
}
