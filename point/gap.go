package point

import (
	"hairline/api"
	"hairline/ball"
	"hairline/zed"
)

// Gap returns the smallest and the greatest distance of the integers from Lo to Hi
// from the nearest multiple of 2^s, or ErrArg if b is not valid or s is not from 0
// to MaxQ.
func Gap(b api.Ball, s int) (api.Int, api.Int, api.Errno) {
	if !ball.Right(b) || s < 0 || s > api.MaxQ {
		return api.Int{}, api.Int{}, api.ErrArg
	}
	least := nearest(b.Lo, b.Hi, s)
	// The nearer an integer is to the middle between two multiples, the farther it
	// is from both. (With s = 0 there is no middle: half is 0, and so is the rest.)
	half := zed.Shr(power(s), 1)
	beside := nearest(zed.Sub(b.Lo, half), zed.Sub(b.Hi, half), s)
	return least, zed.Sub(half, beside), api.OK
}

// nearest returns the smallest distance of the integers from lo to hi from a
// multiple of 2^s.
func nearest(lo, hi api.Int, s int) api.Int {
	below := zed.Shl(zed.Shr(lo, s), s)
	next := zed.Add(below, power(s))
	if zed.Cmp(next, hi) <= 0 {
		return api.Int{}
	}
	// All of them lie between these two multiples.
	after, before := zed.Sub(lo, below), zed.Sub(next, hi)
	if zed.Cmp(after, before) < 0 {
		return after
	}
	return before
}

func power(n int) api.Int {
	return zed.Shl(zed.Of(1), n)
}
