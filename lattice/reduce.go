package lattice

import (
	"slices"

	"hairline/api"
	"hairline/matrix"
	"hairline/zed"
)

// Inside returns the integers c, one for each row, such that the sum of c(i) times row
// i is v. It returns ErrArg if rows is not a valid matrix, or v has a different number
// of elements than a row, or ErrNone if the rows are not independent, or there are no
// such integers.
func Inside(rows [][]api.Int, v []api.Int) ([]api.Int, api.Errno) {
	if !matrix.Right(rows) || len(v) != len(rows[0]) {
		return nil, api.ErrArg
	}
	var b basis
	n := len(rows)
	for i, row := range rows {
		if !b.add(row, unit(i, n+1)) {
			return nil, api.ErrNone
		}
	}
	// If there are such integers, the last of them is the quotient m of v and the last
	// row, since the other rows have no part in the orthogonalized last row. After its
	// multiple is subtracted, the same holds for the last row but one, and so on, until
	// nothing is left of v.
	b.add(v, unit(n, n+1))
	b.shorten(n)
	if slices.ContainsFunc(b.rows[n], func(x api.Int) bool { return zed.Sign(x) != 0 }) {
		return nil, api.ErrNone
	}
	out := make([]api.Int, n)
	for i := range out {
		out[i] = zed.Neg(b.factors[n][i])
	}
	return out, api.OK
}

// Reduced reports whether the rows are independent, every m(i, j) with j < i is from
// -1/2 to 1/2, and no N(i) is less than (3/4 - m(i, i-1)^2) N(i-1). It returns ErrArg
// if rows is not a valid matrix.
func Reduced(rows [][]api.Int) (bool, api.Errno) {
	if !matrix.Right(rows) {
		return false, api.ErrArg
	}
	var b basis
	for k, row := range rows {
		if !b.add(row, nil) || !b.short(k) || !b.ordered(k) {
			return false, api.OK
		}
	}
	return true, api.OK
}

// Reduce returns the rows after the algorithm of Lenstra, Lenstra and Lovász, and the
// integer matrix whose product with the original rows they are. It returns ErrArg if
// rows is not a valid matrix, or ErrNone if the rows are not independent.
//
// A row is added only when the algorithm comes to it: until then nothing depends on it,
// and the volumes of the rows ahead have become short. It ends because each exchange
// makes a volume less, and no other one greater.
func Reduce(rows [][]api.Int) ([][]api.Int, [][]api.Int, api.Errno) {
	if !matrix.Right(rows) {
		return nil, nil, api.ErrArg
	}
	var b basis
	for k := 0; k < len(rows); {
		if k == len(b.rows) && !b.add(rows[k], unit(k, len(rows))) {
			return nil, nil, api.ErrNone
		}
		b.shorten(k)
		if b.ordered(k) {
			k++
		} else {
			b.exchange(k)
			k-- // to 0 at the least, where a row is ordered
		}
	}
	return copies(b.rows), copies(b.factors), api.OK
}

// unit returns n integers of which the k-th is 1 and the others are 0.
func unit(k, n int) []api.Int {
	out := make([]api.Int, n)
	out[k] = zed.Of(1)
	return out
}

// copies returns rows in normal form that share no memory with the given ones, nor with
// each other.
func copies(rows [][]api.Int) [][]api.Int {
	out := make([][]api.Int, len(rows))
	for i, row := range rows {
		out[i] = make([]api.Int, len(row))
		copy(out[i], row)
		for k, x := range out[i] {
			out[i][k] = zed.Norm(x)
		}
	}
	return out
}
