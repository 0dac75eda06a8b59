package rows

import (
	"hairline/api"
	"hairline/zed"
)

// terms returns a closure that returns bounds of the next term with each call:
// first itself, and then term k, which is the term before it times factor,
// divided by divisor(k).
func terms(first, factor api.Int, divisor func(k int64) api.Int) func() bounds {
	term := bounds{low: first, high: first}
	k := int64(-1)
	return func() bounds {
		k++
		if k > 0 {
			term = term.times(factor).over(divisor(k))
		}
		return term
	}
}

// oddPowers returns a closure like that of terms, for T^(2k+1) / (2k+1). Term
// k + 1 does not follow from term k, which is rounded once more, but from the
// power in it.
func oddPowers(t api.Int, q int) func() bounds {
	square := zed.Shl(zed.Of(1), 2*q)
	power := terms(t, zed.Mul(t, t), func(int64) api.Int { return square })
	odd := int64(-1)
	return func() bounds {
		odd += 2
		return power().over(zed.Of(odd))
	}
}
