package polyz

import (
	"hairline/api"
	"hairline/zed"
)

// Add returns p + q.
func Add(p, q api.Poly) api.Poly {
	return sum(p, q)
}

// Sub returns p - q.
func Sub(p, q api.Poly) api.Poly {
	return sum(p, each(q, zed.Neg))
}

// Mul returns p q.
func Mul(p, q api.Poly) api.Poly {
	p, q = trim(p), trim(q)
	if len(p) == 0 || len(q) == 0 {
		return nil
	}
	out := make(api.Poly, len(p)+len(q)-1)
	for i := range len(p) {
		for k := range len(q) {
			out[i+k] = zed.Add(out[i+k], zed.Mul(p[i], q[k]))
		}
	}
	return out
}

// Times returns c p.
func Times(p api.Poly, c api.Int) api.Poly {
	return each(p, func(x api.Int) api.Int {
		return zed.Mul(x, c)
	})
}

// sum returns the sum of any number of polynomials.
func sum(terms ...api.Poly) api.Poly {
	size := 0
	for _, p := range terms {
		size = max(size, len(p))
	}
	out := make(api.Poly, size)
	for _, p := range terms {
		for i := range len(p) {
			out[i] = zed.Add(out[i], p[i])
		}
	}
	return trim(out)
}
