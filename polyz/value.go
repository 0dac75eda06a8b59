package polyz

import (
	"hairline/api"
	"hairline/zed"
)

// Value returns p(x).
func Value(p api.Poly, x api.Int) api.Int {
	var value api.Int
	for i := range len(p) {
		value = zed.Add(zed.Mul(value, x), p[len(p)-1-i])
	}
	return value
}

// Shift returns the polynomial p(x + a).
func Shift(p api.Poly, a api.Int) api.Poly {
	var out api.Poly
	for i := range len(p) {
		k := len(p) - 1 - i
		// What is there so far is multiplied by x + a.
		out = sum(raise(out), Times(out, a), p[k:k+1])
	}
	return out
}

// Stretch returns the polynomial p(c x).
func Stretch(p api.Poly, c api.Int) api.Poly {
	power := zed.Of(1)
	return each(p, func(x api.Int) api.Int {
		x = zed.Mul(x, power)
		power = zed.Mul(power, c)
		return x
	})
}

// Derive returns the derivative of p.
func Derive(p api.Poly) api.Poly {
	if len(p) == 0 {
		return nil
	}
	out := make(api.Poly, len(p)-1)
	for i := range len(out) {
		out[i] = zed.Mul(p[i+1], zed.Of(int64(i+1)))
	}
	return trim(out)
}

// raise returns p times x. It shares the limbs of p, so it may serve as an
// argument, but not as a result.
func raise(p api.Poly) api.Poly {
	return append(api.Poly{{}}, p...)
}
