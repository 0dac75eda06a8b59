package rows

import (
	"hairline/api"
	"hairline/zed"
)

// bounds enclose a number: low is not greater than it, high is not less.
type bounds struct {
	low, high api.Int
}

func (b bounds) plus(c bounds) bounds {
	return bounds{low: zed.Add(b.low, c.low), high: zed.Add(b.high, c.high)}
}

// minus takes the opposite bound of c for each bound: the more is subtracted,
// the less is left.
func (b bounds) minus(c bounds) bounds {
	return bounds{low: zed.Sub(b.low, c.high), high: zed.Sub(b.high, c.low)}
}

// times is for a factor that is not negative, which leaves low and high in
// their order.
func (b bounds) times(factor api.Int) bounds {
	return bounds{low: zed.Mul(b.low, factor), high: zed.Mul(b.high, factor)}
}

// over divides by a positive integer, and rounds outwards.
func (b bounds) over(divisor api.Int) bounds {
	low, _, _ := zed.DivMod(b.low, divisor)
	high, _ := zed.Up(b.high, divisor)
	return bounds{low: low, high: high}
}

// sum adds up n terms. As each term from the third on is at most half of the one
// before it, what follows is at most twice the next term.
func sum(next func() bounds, n int) bounds {
	total := bounds{}
	for range n {
		total = total.plus(next())
	}
	rest := next().high
	total.high = zed.Add(total.high, zed.Add(rest, rest))
	return total
}

// alternatingSum adds and subtracts 2n terms in turn. As the terms decrease from
// the second on, what follows is from 0 to the term that would be added next.
func alternatingSum(next func() bounds, n int) bounds {
	total := bounds{}
	now, then := bounds.plus, bounds.minus
	for range 2 * n {
		total = now(total, next())
		now, then = then, now
	}
	total.high = zed.Add(total.high, next().high)
	return total
}
