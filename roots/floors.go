package roots

import (
	"slices"

	"hairline/api"
	"hairline/zed"
)

// Floors returns the integers n from lo to hi for which there is a real root from n on
// and below n + 1, or ErrArg if p is 0, or hi is less than lo.
func Floors(p api.Poly, lo, hi api.Int) ([]api.Int, api.Errno) {
	if !right(p, lo, hi) {
		return nil, api.ErrArg
	}
	chain := sturm(p)
	changes := signChanges(chain)
	sign := func(x api.Int) int {
		return Sign(chain[0], x)
	}
	// How many roots there are from x on, up to a number that is the same for each x.
	from := func(x api.Int) int {
		if sign(x) == 0 {
			return changes(x) + 1
		}
		return changes(x)
	}
	end := zed.Add(hi, zed.Of(1))
	return floors(span{low: lo, high: end, fromLow: from(lo), fromHigh: from(end)}, from, sign), api.OK
}

// In returns the integer roots of p from lo to hi, or ErrArg if p is 0, or hi is less
// than lo.
func In(p api.Poly, lo, hi api.Int) ([]api.Int, api.Errno) {
	found, code := Floors(p, lo, hi)
	return slices.DeleteFunc(found, func(n api.Int) bool { return Sign(p, n) != 0 }), code
}

// All returns all integer roots of p, or ErrArg if p is 0.
func All(p api.Poly) ([]api.Int, api.Errno) {
	bound, _ := Bound(p)
	return In(p, zed.Neg(bound), bound)
}

// span is the range of the numbers from low on and below high, which are integers, with
// how many roots there are from low on, and how many from high on.
type span struct {
	low, high         api.Int
	fromLow, fromHigh int
}

// floors returns the floors of the roots in a span. The functions say how many roots
// there are from a number on, and which sign a polynomial has there that is 0 at these
// roots alone, and only once at each.
func floors(whole span, from, sign func(x api.Int) int) []api.Int {
	var out []api.Int
	missing := whole.roots()
	waiting := []span{whole}
halving:
	for len(waiting) > 0 {
		last := len(waiting) - 1
		s := waiting[last]
		waiting = waiting[:last]
		for {
			switch {
			case missing == 0:
				break halving
			case s.roots() == 0:
				continue halving
			case s.roots() == 1 || s.narrow():
				missing -= s.roots()
				out = append(out, s.firstFloor(sign))
				continue halving
			}
			lower, upper := s.halve(from)
			waiting = append(waiting, upper)
			s = lower
		}
	}
	return out
}

func (s span) roots() int {
	return s.fromLow - s.fromHigh
}

// narrow reports whether all numbers of the span have the same floor.
func (s span) narrow() bool {
	return zed.Cmp(zed.Add(s.low, zed.Of(1)), s.high) >= 0
}

func (s span) halve(from func(x api.Int) int) (span, span) {
	middle := between(s.low, s.high)
	count := from(middle)
	return span{s.low, middle, s.fromLow, count}, span{middle, s.high, count, s.fromHigh}
}

// firstFloor returns the floor of the only root in a span, or of all if it is narrow. To
// find it takes but one sign for each step: it differs on the two sides of the root.
func (s span) firstFloor(sign func(x api.Int) int) api.Int {
	atLow := sign(s.low)
	for atLow != 0 && !s.narrow() {
		middle := between(s.low, s.high)
		switch sign(middle) {
		case 0:
			return middle
		case atLow:
			s.low = middle
		default:
			s.high = middle
		}
	}
	return zed.Norm(s.low)
}

// between returns an integer between two others, which differ by more than 1.
//
// Where their sizes differ much, it is one of a size between theirs: far bounds come
// close to small roots in a few steps so.
func between(low, high api.Int) api.Int {
	if zed.Sign(low) < 0 && zed.Sign(high) > 0 {
		return api.Int{}
	}
	if zed.Sign(low) < 0 {
		return zed.Neg(between(zed.Neg(high), zed.Neg(low)))
	}
	short, long := zed.BitLen(low), zed.BitLen(high)
	if long > short+1 {
		return zed.Shl(zed.Of(1), (short+long-1)/2)
	}
	return zed.Shr(zed.Add(low, high), 1)
}
