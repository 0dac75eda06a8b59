package bits

import (
	"hairline/api"
	"hairline/dyad"
)

// Normal reports whether a pattern is normal.
func Normal(b uint64) bool {
	_, field, _ := Parts(b)
	return field != 0 && field != noNumber
}

// Binade returns the greatest n such that 2^n is not greater than the absolute
// value of the number, or ErrArg if the pattern is not normal.
func Binade(b uint64) (int, api.Errno) {
	if !Normal(b) {
		return 0, api.ErrArg
	}
	_, field, _ := Parts(b)
	return firstBinade + field - 1, api.OK
}

// First returns the pattern of 2^e if that is a normal pattern, and otherwise
// ErrArg.
func First(e int) (uint64, api.Errno) {
	if e < firstBinade || e > lastBinade {
		return 0, api.ErrArg
	}
	return join(hidden, e-fractionBits), api.OK
}

// Near returns the pattern of the greatest double that is not greater than d,
// or ErrArg if d is not at least 2^-1022 and less than 2^1024.
func Near(d api.Dyad) (uint64, api.Errno) {
	top, _ := dyad.Log(d)
	if dyad.Sign(d) <= 0 || top < firstBinade || top > lastBinade {
		return 0, api.ErrArg
	}
	// From 2^top up, below 2^(top + 1): 53 bits are left of d, one limb.
	last := top - fractionBits
	return join(dyad.Floor(d, -last).Mag[0], last), api.OK
}
