package consts

import (
	"hairline/api"
	"hairline/ball"
)

// series is a function of package rows: t, q and the number of terms.
type series func(t api.Int, q, n int) (api.Int, api.Int, api.Errno)

// ofPart returns the ball with Q = w that contains the value at 1 / divisor of a
// function that increases, by so many terms of its series.
func ofPart(sum series, divisor uint64, w, terms int) api.Ball {
	part := reciprocal(divisor, w)
	low, _, _ := sum(part.Lo, w, terms)
	_, high, _ := sum(part.Hi, w, terms)
	return api.Ball{Lo: low, Hi: high, Q: w}
}

// reciprocal returns the ball with Q = w around 1 / divisor. An odd divisor from
// 3 on does not divide 2^w, so the upper end is the lower end plus 1.
func reciprocal(divisor uint64, w int) api.Ball {
	one, _ := ball.Point(api.Dyad{M: whole(1)}, w)
	all, _ := ball.Point(api.Dyad{M: whole(divisor)}, w)
	part, _ := ball.Div(one, all)
	return part
}

func times(b api.Ball, k uint64) api.Ball {
	product, _ := ball.Times(b, whole(k))
	return product
}

// whole returns the integer n, which is not 0.
func whole(n uint64) api.Int {
	return api.Int{Mag: []uint64{n}}
}
