package dyad

import (
	"hairline/api"
	"hairline/zed"
)

// Add returns the sum.
func Add(a, b api.Dyad) api.Dyad {
	x, y, e := align(a, b)
	return result(zed.Add(x, y), e)
}

// Sub returns the difference.
func Sub(a, b api.Dyad) api.Dyad {
	x, y, e := align(a, b)
	return result(zed.Sub(x, y), e)
}

// Mul returns the product.
func Mul(a, b api.Dyad) api.Dyad {
	a, b = read(a), read(b)
	return result(zed.Mul(a.M, b.M), a.E+b.E)
}

// Neg returns -d.
func Neg(d api.Dyad) api.Dyad {
	d = read(d)
	return result(zed.Neg(d.M), d.E)
}

// Shift returns d times 2^n; an n below -4000 counts as -4000, an n above 4000
// as 4000.
func Shift(d api.Dyad, n int) api.Dyad {
	d = read(d)
	return result(d.M, d.E+limit(n))
}
