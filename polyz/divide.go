package polyz

import (
	"hairline/api"
	"hairline/zed"
)

// Divide returns the polynomial t with p = q t, or ErrZero if q is 0, or ErrDivide
// if q does not divide p.
func Divide(p, q api.Poly) (api.Poly, api.Errno) {
	rest, q := Norm(p), trim(q)
	if len(q) == 0 {
		return nil, api.ErrZero
	}
	top := len(q) - 1
	t := make(api.Poly, max(0, len(rest)-top))
	for i := range len(t) {
		k := len(t) - 1 - i
		window := rest[k : k+len(q)]
		factor, over, _ := zed.DivMod(window[top], q[top])
		if zed.Sign(over) != 0 {
			return nil, api.ErrDivide
		}
		t[k] = factor
		for j := range len(q) {
			window[j] = zed.Sub(window[j], zed.Mul(factor, q[j]))
		}
	}
	if Degree(rest) >= 0 {
		return nil, api.ErrDivide
	}
	return t, api.OK
}

// Rest returns the polynomials t and r with L p = q t + r, where the degree of r is
// less than that of q, and L is the leading coefficient of q to the power of the
// number of steps, or ErrZero if q is 0.
func Rest(p, q api.Poly) (api.Poly, api.Poly, api.Errno) {
	rest, q := Norm(p), trim(q)
	if len(q) == 0 {
		return nil, nil, api.ErrZero
	}
	top := len(q) - 1
	t := make(api.Poly, max(0, len(rest)-top))
	passed := zed.Of(1) // the leading coefficient to the power of the steps so far
	for i := range len(t) {
		k := len(t) - 1 - i
		window := rest[k : k+len(q)]
		// Each step multiplies all that is left by the leading coefficient; what lies
		// below the window catches up when the window reaches it.
		window[0] = zed.Mul(window[0], passed)
		t[k] = window[top]
		for j := range top {
			window[j] = zed.Sub(zed.Mul(window[j], q[top]), zed.Mul(t[k], q[j]))
		}
		passed = zed.Mul(passed, q[top])
	}
	// Each step also multiplies the coefficients of t that are there already: that of
	// x^k, after which k steps follow, by the leading coefficient to the power k.
	return Stretch(t, q[top]), trim(rest[:min(top, len(rest))]), api.OK
}
