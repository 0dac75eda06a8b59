package matrix

import (
	"slices"

	"hairline/api"
	"hairline/zed"
)

// Adjugate returns the matrix of the determinants of the minors, in which row i and
// column k are those of the minor without row k and column i, negated if i + k is
// odd, or ErrArg if a is not square.
func Adjugate(a [][]api.Int) ([][]api.Int, api.Errno) {
	if !square(a) {
		return nil, api.ErrArg
	}
	columns := make([][]api.Int, len(a))
	for k := range columns {
		columns[k] = cross(slices.Concat(a[:k], a[k+1:]))
	}
	return build(len(a), len(a), func(i, k int) api.Int {
		return signed(columns[k][i], k%2 == 1)
	}), api.OK
}

// Solve returns x and d such that d is the determinant of a and a x = d b, or ErrArg
// if a is not square, or b has a different number of elements than a has rows, or
// ErrNone if d is 0.
func Solve(a [][]api.Int, b []api.Int) ([]api.Int, api.Int, api.Errno) {
	if !square(a) || len(b) != len(a) {
		return nil, api.Int{}, api.ErrArg
	}
	n := len(a)
	all := cross(build(n, n+1, func(i, k int) api.Int {
		if k == n {
			return b[i]
		}
		return a[i][k]
	}))
	if zed.Sign(all[n]) == 0 {
		return nil, api.Int{}, api.ErrNone
	}
	// Without column i, b stands n - 1 - i exchanges of columns away from the place of
	// that column. The alternating sign counts i, so together they are odd or even as
	// n - 1 is; in the determinant of a itself the alternating sign alone counts n.
	x := make([]api.Int, n)
	for i := range x {
		x[i] = signed(all[i], n%2 == 0)
	}
	return x, signed(all[n], n%2 == 1), api.OK
}
