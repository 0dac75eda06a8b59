package nat

// DivMod returns q, r and true, where a = q b + r and r is less than b, or
// nothing and false if b is 0.
func DivMod(a, b []uint64) ([]uint64, []uint64, bool) {
	a, b = trim(a), trim(b)
	if len(b) == 0 {
		return nil, nil, false
	}
	if len(a) < len(b) {
		return nil, Norm(a), true
	}
	if len(a) == 1 {
		return trim([]uint64{a[0] / b[0]}), trim([]uint64{a[0] % b[0]}), true
	}
	q, r := longDivide(a, b)
	return trim(q), trim(r), true
}

// Gcd returns the greatest common divisor.
func Gcd(a, b []uint64) []uint64 {
	a, b = Norm(a), Norm(b)
	for len(b) > 0 {
		_, r, _ := DivMod(a, b)
		a, b = b, r
	}
	return a
}

// longDivide divides a by b, which has no leading zero limb and is not longer
// than a. Both are shifted so that b's top bit is 1: only then is a quotient
// that is guessed from the top limbs nearly right.
func longDivide(a, b []uint64) ([]uint64, []uint64) {
	shift := limbBits - limbLen(b[len(b)-1])
	divisor := make([]uint64, len(b)+1)
	shiftUp(divisor, b, shift)
	divisor = divisor[:len(b)]
	rest := make([]uint64, len(a)+1)
	shiftUp(rest, a, shift)
	q := make([]uint64, len(a)-len(b)+1)
	for i := range len(q) {
		k := len(q) - 1 - i
		end := k + len(b) + 1
		q[k] = divideWindow(rest[k:end:end], divisor)
	}
	r := make([]uint64, len(b))
	shiftDown(r, rest[:len(b)], shift)
	return q, r
}

// divideWindow leaves in a window of one limb more than b the remainder of its
// division by b, and returns the quotient. b's top bit is 1, and the window is
// less than 2^64 b.
func divideWindow(window, b []uint64) uint64 {
	top := len(b) - 1
	guess := guessQuotient(window[top+1], window[top], b[top])
	// The guess takes b's lower limbs for 0, so it is too great by 2 at most.
	if subProduct(window, b, guess) != 0 {
		guess--
		for addTo(window, b) == 0 {
			guess--
		}
	}
	return guess
}

// guessQuotient returns the quotient of the limbs high and low by d, or the
// greatest limb if it is greater. d's top bit is 1.
func guessQuotient(high, low, d uint64) uint64 {
	if high >= d {
		return 1<<limbBits - 1
	}
	upper, rest := divideHalf(high, low>>halfBits, d)
	lower, _ := divideHalf(rest, low&lowHalf, d)
	return upper<<halfBits | lower
}

// divideHalf returns quotient and remainder of high 2^32 + half by d, where
// high is less than d, half is half a limb, and d's top bit is 1. The quotient
// is half a limb then.
func divideHalf(high, half, d uint64) (uint64, uint64) {
	d0, d1 := d&lowHalf, d>>halfBits
	guess, rest := high/d1, high%d1
	for rest <= lowHalf && (guess > lowHalf || guess*d0 > rest<<halfBits|half) {
		guess--
		rest += d1
	}
	return guess, high<<halfBits + half - guess*d
}
