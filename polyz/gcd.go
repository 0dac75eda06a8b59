package polyz

import (
	"hairline/api"
	"hairline/zed"
)

// Content returns the greatest common divisor of the coefficients.
func Content(p api.Poly) api.Int {
	var content api.Int
	for i := range len(p) {
		content = zed.Gcd(content, p[i])
	}
	return content
}

// Primitive returns p divided by its content, and by -1 if its leading coefficient
// is negative.
func Primitive(p api.Poly) api.Poly {
	divisor := Content(p)
	if zed.Sign(lead(p)) < 0 {
		divisor = zed.Neg(divisor)
	}
	return shrink(p, divisor)
}

// Gcd returns the greatest common divisor of p and q, whose leading coefficient is
// positive, or 0 if both are 0.
func Gcd(p, q api.Poly) api.Poly {
	common := zed.Gcd(Content(p), Content(q))
	return Times(primitiveGcd(Primitive(p), Primitive(q)), common)
}

// Simple returns the polynomial with the roots of p, each with multiplicity 1.
func Simple(p api.Poly) api.Poly {
	p = Primitive(p)
	// Beside the error for the polynomial 0, Divide returns nothing: that is 0, too.
	simple, _ := Divide(p, Gcd(p, Derive(p)))
	return simple
}

// primitiveGcd is Gcd for results of Primitive: Euclid's algorithm with
// pseudo-division.
//
// Each rest is divided by a number that is known to divide all its coefficients, so
// that subresultants of p and q are left, whose coefficients grow no faster than in
// proportion to the degrees. Primitive may leave shorter ones, but computing a content
// at each step can take several times as long as all the rest, above all where p and
// q have nothing in common.
func primitiveGcd(p, q api.Poly) api.Poly {
	if len(p) < len(q) {
		p, q = q, p
	}
	first, scale := zed.Of(1), zed.Of(1)
	for len(q) > 1 {
		gap := len(p) - len(q)
		_, r, _ := Rest(p, q)
		p, q = q, shrink(r, zed.Mul(first, power(scale, gap)))
		first = lead(p)
		if gap > 0 {
			scale, _, _ = zed.DivMod(power(first, gap), power(scale, gap-1))
		}
	}
	if len(q) == 1 {
		return api.Poly{zed.Of(1)}
	}
	return Primitive(p)
}

// shrink returns p divided by a number that divides all its coefficients.
func shrink(p api.Poly, divisor api.Int) api.Poly {
	return each(p, func(c api.Int) api.Int {
		quotient, _, _ := zed.DivMod(c, divisor)
		return quotient
	})
}

func power(a api.Int, n int) api.Int {
	out := zed.Of(1)
	for range n {
		out = zed.Mul(out, a)
	}
	return out
}
