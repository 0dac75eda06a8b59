package dyad

import (
	"hairline/api"
	"hairline/zed"
)

// Floor returns the greatest integer that is not greater than d times 2^q; q is
// limited like n in Shift.
func Floor(d api.Dyad, q int) api.Int {
	d = read(d)
	return floorShift(d.M, d.E+limit(q))
}

// Ceil returns the smallest integer that is not less than d times 2^q; q is
// limited like n in Shift.
func Ceil(d api.Dyad, q int) api.Int {
	d = read(d)
	return zed.Neg(floorShift(zed.Neg(d.M), d.E+limit(q)))
}

// floorShift returns m times 2^n, rounded down. An argument's E and a limited q
// make an n from -8000 to 8000, which a single shift of zed covers.
func floorShift(m api.Int, n int) api.Int {
	if n < 0 {
		return zed.Shr(m, -n)
	}
	return zed.Shl(m, n)
}
