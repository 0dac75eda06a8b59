package ball

import (
	"hairline/api"
	"hairline/dyad"
	"hairline/zed"
)

const maxShift = 4000

// Add returns the smallest ball with the same Q that contains all sums of a
// number of a and a number of b.
func Add(a, b api.Ball) (api.Ball, api.Errno) {
	return combine(a, b, func(x, y api.Int) (api.Int, api.Int) {
		sum := zed.Add(x, y)
		return sum, sum
	})
}

// Sub returns the smallest ball with the same Q that contains all differences.
func Sub(a, b api.Ball) (api.Ball, api.Errno) {
	return combine(a, b, func(x, y api.Int) (api.Int, api.Int) {
		rest := zed.Sub(x, y)
		return rest, rest
	})
}

// Mul returns the smallest ball with the same Q that contains all products.
func Mul(a, b api.Ball) (api.Ball, api.Errno) {
	return combine(a, b, func(x, y api.Int) (api.Int, api.Int) {
		return scale(zed.Mul(x, y), -a.Q)
	})
}

// Div returns the smallest ball with the same Q that contains all quotients, or
// ErrZero if b contains 0.
func Div(a, b api.Ball) (api.Ball, api.Errno) {
	if matching(a, b) && hasZero(b) {
		return api.Ball{}, api.ErrZero
	}
	return combine(a, b, func(x, y api.Int) (api.Int, api.Int) {
		return divide(zed.Shl(x, a.Q), y)
	})
}

// Times returns the smallest ball with the same Q that contains all numbers of b
// times k.
func Times(b api.Ball, k api.Int) (api.Ball, api.Errno) {
	if !Right(b) {
		return api.Ball{}, api.ErrArg
	}
	lo, hi := zed.Mul(b.Lo, k), zed.Mul(b.Hi, k)
	if zed.Sign(k) < 0 {
		lo, hi = hi, lo
	}
	return api.Ball{Lo: lo, Hi: hi, Q: b.Q}, api.OK
}

// Shift returns the smallest ball with the same Q that contains all numbers of b
// times 2^n, or ErrArg if n is not from -4000 to 4000.
func Shift(b api.Ball, n int) (api.Ball, api.Errno) {
	if !Right(b) || n < -maxShift || n > maxShift {
		return api.Ball{}, api.ErrArg
	}
	lo, _ := scale(b.Lo, n)
	_, hi := scale(b.Hi, n)
	return api.Ball{Lo: lo, Hi: hi, Q: b.Q}, api.OK
}

// combine returns the ball of what at answers, rounded down and up, for an end
// of a and an end of b, or ErrArg. The ends are enough: while one of two numbers
// stays, the result only rises or only falls with the other.
func combine(a, b api.Ball, at func(x, y api.Int) (api.Int, api.Int)) (api.Ball, api.Errno) {
	if !matching(a, b) {
		return api.Ball{}, api.ErrArg
	}
	lo, hi := at(a.Lo, b.Lo)
	for _, ends := range [][2]api.Int{{a.Lo, b.Hi}, {a.Hi, b.Lo}, {a.Hi, b.Hi}} {
		down, up := at(ends[0], ends[1])
		if zed.Cmp(down, lo) < 0 {
			lo = down
		}
		if zed.Cmp(up, hi) > 0 {
			hi = up
		}
	}
	// What needs no rounding is one integer for both ends: each gets its own limbs.
	return api.Ball{Lo: zed.Norm(lo), Hi: zed.Norm(hi), Q: a.Q}, api.OK
}

// matching reports whether both balls are valid and have the same Q.
func matching(a, b api.Ball) bool {
	return Right(a) && Right(b) && a.Q == b.Q
}

// hasZero reports whether a valid ball contains 0.
func hasZero(b api.Ball) bool {
	return zed.Sign(b.Lo) <= 0 && zed.Sign(b.Hi) >= 0
}

// scale returns x times 2^n, rounded down and up. For an n from -4000 to 4000 it
// counts as an E of dyad.
func scale(x api.Int, n int) (api.Int, api.Int) {
	d := api.Dyad{M: x, E: n}
	return dyad.Floor(d, 0), dyad.Ceil(d, 0)
}

// divide returns x / y, rounded down and up, for a y that is not 0.
func divide(x, y api.Int) (api.Int, api.Int) {
	if zed.Sign(y) < 0 {
		// Only with a positive divisor does DivMod round down.
		x, y = zed.Neg(x), zed.Neg(y)
	}
	down, rest, _ := zed.DivMod(x, y)
	if zed.Sign(rest) == 0 {
		return down, down
	}
	return down, zed.Add(down, zed.Of(1))
}
