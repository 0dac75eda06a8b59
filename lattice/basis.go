package lattice

import (
	"hairline/api"
	"hairline/zed"
)

// family is a list of rows. Its factors tell how they are made of the rows that have
// been handed in: row i is the sum of factors[i][j] times the j-th of those.
type family struct {
	rows, factors [][]api.Int
}

func (f *family) append(row, factors []api.Int) {
	f.rows = append(f.rows, row)
	f.factors = append(f.factors, factors)
}

// subtract subtracts q times row j from row k.
func (f *family) subtract(k, j int, q api.Int) {
	f.rows[k] = without(f.rows[k], q, f.rows[j])
	f.factors[k] = without(f.factors[k], q, f.factors[j])
}

// trade exchanges row k and the one ahead of it.
func (f *family) trade(k int) {
	f.rows[k-1], f.rows[k] = f.rows[k], f.rows[k-1]
	f.factors[k-1], f.factors[k] = f.factors[k], f.factors[k-1]
}

// basis is a family whose rows are independent, except that the last one may depend on
// the others, together with what orthogonalization makes of them. Rows are counted from
// 0 here.
//
// The quantities m(i, j) of the chapter are fractions. Their shares are integers:
// shares[i][j] is m(i, j) times the volume of the rows up to row j. There is one more
// share in each list, shares[i][i], for which m(i, i) counts as 1: the volume itself.
// So N(i) is the quotient of one volume by the volume of one row less.
//
// As in Bareiss elimination, a share is the determinant of a part of a matrix of scalar
// products. So all the divisions that lead from shares to shares are exact.
type basis struct {
	family
	shares [][]api.Int
}

// add adds a row, and reports whether the rows are still independent. If they are not,
// no further row may be added.
func (b *basis) add(row, factors []api.Int) bool {
	b.append(row, factors)
	last := len(b.rows) - 1
	own := make([]api.Int, last+1)
	b.shares = append(b.shares, own)
	for j, other := range b.shares {
		share, _ := Dot(row, b.rows[j])
		for i := range j {
			share = quotient(zed.Sub(zed.Mul(share, b.volume(i+1)), zed.Mul(own[i], other[i])), b.volume(i))
		}
		own[j] = share
	}
	return zed.Sign(own[last]) != 0
}

// volume returns the volume of the first n rows.
func (b *basis) volume(n int) api.Int {
	if n == 0 {
		return zed.Of(1)
	}
	return b.shares[n-1][n-1]
}

// short reports whether m(k, j) is from -1/2 to 1/2 for all rows j ahead of row k.
func (b *basis) short(k int) bool {
	for j, share := range b.shares[k][:k] {
		if zed.Cmp(zed.Abs(zed.Add(share, share)), b.volume(j+1)) > 0 {
			return false
		}
	}
	return true
}

// shorten subtracts multiples of the rows ahead of row k from it, from the last of them
// to the first, so that each m(k, j) is from -1/2 on and below 1/2.
func (b *basis) shorten(k int) {
	for j := k - 1; j >= 0; j-- {
		q, _ := zed.Round(b.shares[k][j], b.volume(j+1))
		if zed.Sign(q) != 0 {
			b.subtract(k, j, q)
			b.shares[k] = without(b.shares[k], q, b.shares[j])
		}
	}
}

// ordered reports whether row k may stay behind the one ahead of it: whether N(k) is at
// least 3/4 - m(k, k-1)^2 times N(k-1). That is whether an exchange of the two would
// leave at least 3/4 of the volume of the first k rows.
func (b *basis) ordered(k int) bool {
	return k == 0 || zed.Cmp(zed.Mul(b.exchangedVolume(k), zed.Of(4)), zed.Mul(b.volume(k), zed.Of(3))) >= 0
}

// exchangedVolume returns which volume the first k rows would have after an exchange of
// row k and the one ahead of it.
func (b *basis) exchangedVolume(k int) api.Int {
	share := b.shares[k][k-1]
	return quotient(zed.Add(zed.Mul(b.volume(k-1), b.volume(k+1)), zed.Mul(share, share)), b.volume(k))
}

// exchange exchanges row k and the one ahead of it.
func (b *basis) exchange(k int) {
	share, volume := b.shares[k][k-1], b.exchangedVolume(k)
	below, old, above := b.volume(k-1), b.volume(k), b.volume(k+1)
	for _, list := range b.shares[k+1:] {
		x, y := list[k-1], list[k]
		list[k-1] = quotient(zed.Add(zed.Mul(x, share), zed.Mul(y, below)), old)
		list[k] = quotient(zed.Sub(zed.Mul(x, above), zed.Mul(y, share)), old)
	}
	for j := range k - 1 {
		b.shares[k-1][j], b.shares[k][j] = b.shares[k][j], b.shares[k-1][j]
	}
	b.shares[k-1][k-1] = volume
	b.trade(k)
}

// quotient returns a divided by b, where that is an integer.
func quotient(a, b api.Int) api.Int {
	q, _, _ := zed.DivMod(a, b)
	return q
}

// without returns a less q times b, which may be shorter than a.
func without(a []api.Int, q api.Int, b []api.Int) []api.Int {
	out := make([]api.Int, len(a))
	copy(out, a)
	for i := range b {
		out[i] = zed.Sub(out[i], zed.Mul(q, b[i]))
	}
	return out
}
