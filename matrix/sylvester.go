package matrix

import (
	"hairline/api"
	"hairline/polyz"
	"hairline/zed"
)

// Sylvester returns the matrix of the coefficients of p and q, starting with the
// highest power, each row one column further to the right than the one above: as many
// rows of p as the degree of q, and then as many of q as the degree of p. It returns
// ErrArg if p or q is 0, or both have the degree 0.
func Sylvester(p, q api.Poly) ([][]api.Int, api.Errno) {
	m, n := polyz.Degree(p), polyz.Degree(q)
	if m < 0 || n < 0 || m+n == 0 {
		return nil, api.ErrArg
	}
	return build(m+n, m+n, func(i, k int) api.Int {
		if i < n {
			return coefficient(p, m+i-k)
		}
		return coefficient(q, i-k) // n + (i - n) - k
	}), api.OK
}

// Resultant returns the determinant of Sylvester, or 0 if p or q is 0, or 1 if both
// have the degree 0.
//
// It is found by Euclid's algorithm with pseudo-division, whose rests are divided by
// numbers that are known to divide all coefficients, so that subresultants are left.
// This takes far fewer steps than the matrix does, and no room for it.
func Resultant(p, q api.Poly) api.Int {
	p, q = polyz.Norm(p), polyz.Norm(q)
	negative := false
	if len(p) < len(q) {
		p, q = q, p
		negative = bothOdd(p, q)
	}
	first, scale := zed.Of(1), zed.Of(1)
	for len(q) > 1 {
		gap := len(p) - len(q)
		negative = negative != bothOdd(p, q)
		_, rest, _ := polyz.Rest(p, q)
		known := api.Poly{zed.Mul(first, power(scale, gap))}
		p = q
		q, _ = polyz.Divide(rest, known)
		first = p[len(p)-1]
		scale = rescale(scale, first, gap)
	}
	if len(q) == 0 {
		return api.Int{}
	}
	return signed(rescale(scale, q[0], len(p)-1), negative)
}

func coefficient(p api.Poly, i int) api.Int {
	if i < 0 || i >= len(p) {
		return api.Int{}
	}
	return zed.Norm(p[i])
}

// bothOdd reports whether p and q in normal form have odd degrees: then an exchange
// changes the sign of their resultant.
func bothOdd(p, q api.Poly) bool {
	return len(p)%2 == 0 && len(q)%2 == 0
}

// rescale returns a^n scale^(1-n), which is an integer for subresultants.
func rescale(scale, a api.Int, n int) api.Int {
	if n == 0 {
		return scale
	}
	out, _, _ := zed.DivMod(power(a, n), power(scale, n-1))
	return out
}

// power returns a^n by squaring, since n may be a great degree.
func power(a api.Int, n int) api.Int {
	if n == 0 {
		return zed.Of(1)
	}
	half := power(a, n/2)
	out := zed.Mul(half, half)
	if n%2 == 1 {
		out = zed.Mul(out, a)
	}
	return out
}
