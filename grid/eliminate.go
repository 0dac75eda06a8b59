package grid

import (
	"hairline/api"
	"hairline/matrix"
	"hairline/polyz"
	"hairline/zed"
)

// Eliminate returns the resultant of g and h as polynomials in y: a polynomial in x.
//
// It is the polynomial with the resultants at single numbers x as its values. Numbers
// at which the degree in y of g or h is less are left out: the resultant there is one
// of a smaller matrix.
func Eliminate(g, h api.Grid) api.Poly {
	p, q := Turn(g), Turn(h)
	if len(p) == 0 || len(q) == 0 {
		return nil
	}
	var points, values []api.Int
	count := degreeBound(p, q) + 1
	for n := 0; len(points) < count; n++ {
		x := candidate(n)
		atP, atQ := PutY(p, x), PutY(q, x)
		if len(atP) == len(p) && len(atQ) == len(q) {
			points = append(points, x)
			values = append(values, matrix.Resultant(atP, atQ))
		}
	}
	return through(points, values)
}

// degreeBound returns a number that the degree of the resultant does not exceed. The
// rows of p and q stand with the powers of y.
//
// In each product of the determinant the powers of y with which its factors stand add
// up to the product of the degrees in y. So any multiple of y's power may be added to
// the degree of each factor, and be taken off again at the end. Where higher powers of
// y stand with lower ones of x, this gives less than the bare degrees do.
func degreeBound(p, q api.Grid) int {
	yP, yQ := len(p)-1, len(q)-1
	least := yQ*weighed(p, 0) + yP*weighed(q, 0)
	for weight := 1; ; weight++ {
		bound := yQ*weighed(p, weight) + yP*weighed(q, weight) - weight*yP*yQ
		if bound >= least {
			return least
		}
		least = bound
	}
}

// weighed returns the greatest degree of a row of p, each with so many times the
// number of the row added to it.
func weighed(p api.Grid, weight int) int {
	greatest := 0
	for i := range len(p) {
		if len(p[i]) > 0 {
			greatest = max(greatest, polyz.Degree(p[i])+weight*i)
		}
	}
	return greatest
}

// candidate returns the n-th of 0, 1, -1, 2, -2 and so on: small numbers keep the
// resultants short.
func candidate(n int) api.Int {
	if n%2 == 0 {
		return zed.Of(-int64(n / 2))
	}
	return zed.Of(int64(n/2 + 1))
}

// through returns the polynomial of the least degree that has these values at these
// points, by Newton's formula. It has integer coefficients, and then so has each
// divided difference: all divisions are exact.
func through(points, values []api.Int) api.Poly {
	for gap := 1; gap < len(points); gap++ {
		for i := len(points) - 1; i >= gap; i-- {
			rise := zed.Sub(values[i], values[i-1])
			values[i], _, _ = zed.DivMod(rise, zed.Sub(points[i], points[i-gap]))
		}
	}
	var out api.Poly
	for n := range len(points) {
		i := len(points) - 1 - n
		out = polyz.Mul(out, api.Poly{zed.Neg(points[i]), zed.Of(1)})
		out = polyz.Add(out, api.Poly{values[i]})
	}
	return out
}
