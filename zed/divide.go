package zed

import (
	"hairline/api"
	"hairline/nat"
)

// Shl returns a times 2^n.
func Shl(a api.Int, n int) api.Int {
	return signed(a.Neg, nat.Shl(a.Mag, n))
}

// Shr returns the greatest integer that is not greater than a divided by 2^n.
func Shr(a api.Int, n int) api.Int {
	if Sign(a) >= 0 {
		return signed(false, nat.Shr(a.Mag, n))
	}
	// Below 0 the magnitude must be rounded up, but nat rounds it down: the
	// magnitude less 1 is shifted, and the 1 is added again afterwards.
	less, _ := nat.Sub(a.Mag, []uint64{1})
	return signed(true, increment(nat.Shr(less, n)))
}

// DivMod returns q, r and true, where a = q b + r and r is at least 0 and less
// than the absolute value of b, or 0, 0 and false if b is 0.
func DivMod(a, b api.Int) (api.Int, api.Int, bool) {
	q, r, ok := nat.DivMod(a.Mag, b.Mag)
	if !ok {
		return api.Int{}, api.Int{}, false
	}
	if a.Neg && len(r) > 0 {
		// The remainder has the sign of a so far: one more b lifts it above 0.
		q = increment(q)
		r, _ = nat.Sub(b.Mag, r)
	}
	return signed(a.Neg != b.Neg, q), signed(false, r), true
}

// Round returns the integer nearest to a / b, the greater one of two, and true,
// or 0 and false if b is 0.
func Round(a, b api.Int) (api.Int, bool) {
	a, b = positiveDivisor(a, b)
	q, r, ok := DivMod(a, b)
	if ok && Cmp(Add(r, r), b) >= 0 {
		q = Add(q, Of(1))
	}
	return q, ok
}

// Up returns the smallest integer that is not less than a / b, and true, or 0
// and false if b is 0.
func Up(a, b api.Int) (api.Int, bool) {
	a, b = positiveDivisor(a, b)
	q, r, ok := DivMod(a, b)
	if ok && Sign(r) > 0 {
		q = Add(q, Of(1))
	}
	return q, ok
}

// Gcd returns the greatest common divisor of the absolute values.
func Gcd(a, b api.Int) api.Int {
	return signed(false, nat.Gcd(a.Mag, b.Mag))
}

// positiveDivisor returns a dividend and a divisor with the same quotient. The
// divisor is not negative: only then is the quotient of DivMod rounded down.
func positiveDivisor(a, b api.Int) (api.Int, api.Int) {
	if b.Neg {
		return flip(a), flip(b)
	}
	return a, b
}

func increment(mag []uint64) []uint64 {
	return nat.Add(mag, []uint64{1})
}
