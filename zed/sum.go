package zed

import (
	"hairline/api"
	"hairline/nat"
)

// Add returns the sum.
func Add(a, b api.Int) api.Int {
	if a.Neg == b.Neg {
		return signed(a.Neg, nat.Add(a.Mag, b.Mag))
	}
	if rest, ok := nat.Sub(a.Mag, b.Mag); ok {
		return signed(a.Neg, rest)
	}
	rest, _ := nat.Sub(b.Mag, a.Mag)
	return signed(b.Neg, rest)
}

// Sub returns the difference.
func Sub(a, b api.Int) api.Int {
	return Add(a, flip(b))
}

// Mul returns the product.
func Mul(a, b api.Int) api.Int {
	return signed(a.Neg != b.Neg, nat.Mul(a.Mag, b.Mag))
}

// Neg returns -a.
func Neg(a api.Int) api.Int {
	return Norm(flip(a))
}

// Abs returns the absolute value of a.
func Abs(a api.Int) api.Int {
	return signed(false, nat.Norm(a.Mag))
}
