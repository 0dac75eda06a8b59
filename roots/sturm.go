package roots

import (
	"hairline/api"
	"hairline/polyz"
	"hairline/zed"
)

// Count returns the number of different real roots r of p with a < r <= b, or ErrArg
// if p is 0, or b is less than a.
func Count(p api.Poly, a, b api.Int) (int, api.Errno) {
	if !right(p, a, b) {
		return 0, api.ErrArg
	}
	changes := signChanges(sturm(p))
	return changes(a) - changes(b), api.OK
}

// right reports whether p has a finite number of roots, and low is not greater than
// high.
func right(p api.Poly, low, high api.Int) bool {
	return polyz.Degree(p) >= 0 && zed.Cmp(low, high) <= 0
}

// signChanges returns a function that counts how often the sign of the polynomials of
// a chain changes at x, zeros left out. For a Sturm chain this falls by 1 from each
// root of the first polynomial on.
func signChanges(chain []api.Poly) func(x api.Int) int {
	return func(x api.Int) int {
		count, last := 0, 0
		for _, p := range chain {
			sign := Sign(p, x)
			if sign*last < 0 {
				count++
			}
			if sign != 0 {
				last = sign
			}
		}
		return count
	}
}

// sturm returns a Sturm chain for the roots of p, which is not 0. Its first polynomial
// has these roots, each with multiplicity 1.
func sturm(p api.Poly) []api.Poly {
	p = polyz.Primitive(p)
	chain := remainders(p, polyz.Primitive(polyz.Derive(p)))
	// The last one is what p and its derivative have in common: it divides all of them.
	// With it the multiple roots go, at which the whole chain is 0.
	common := polyz.Primitive(chain[len(chain)-1])
	if len(common) > 1 {
		for i := range chain {
			chain[i], _ = polyz.Divide(chain[i], common)
		}
	}
	return chain
}

// remainders returns p, q and what Euclid's algorithm makes of them if it takes the
// negative of each remainder, all up to positive factors. Both are in normal form, and
// the degree of p is greater than that of q.
//
// Each remainder is divided by a number that is known to divide all its coefficients,
// so that subresultants of p and q are left, up to their signs.
func remainders(p, q api.Poly) []api.Poly {
	chain := []api.Poly{p}
	first, scale := zed.Of(1), zed.Of(1)
	for len(q) > 1 {
		chain = append(chain, q)
		gap := len(p) - len(q)
		_, rest, _ := polyz.Rest(p, q)
		divisor := zed.Mul(first, power(scale, gap))
		lead := q[len(q)-1]
		// Rest multiplies by the lead gap + 1 times: this may have turned the sign.
		if signOfPower(lead, gap+1) > 0 {
			divisor = zed.Neg(divisor)
		}
		p = q
		q, _ = polyz.Divide(rest, api.Poly{divisor})
		first = zed.Abs(lead)
		scale, _, _ = zed.DivMod(power(first, gap), power(scale, gap-1))
	}
	if len(q) == 1 {
		chain = append(chain, q)
	}
	return chain
}

// power returns a^n by squaring, since n may be a great degree.
func power(a api.Int, n int) api.Int {
	if n == 0 {
		return zed.Of(1)
	}
	half := power(a, n/2)
	out := zed.Mul(half, half)
	if n%2 == 1 {
		out = zed.Mul(out, a)
	}
	return out
}
