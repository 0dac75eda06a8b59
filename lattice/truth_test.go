package lattice

import (
	"math/big"
	"slices"
)

// What the package computes, in the chapter's words and in another arithmetic: with
// fractions, and with all quantities made anew after each change of a row.

func times(x, y *big.Int) *big.Int {
	return new(big.Int).Mul(x, y)
}

func scaled(l []*big.Int, c *big.Int) []*big.Int {
	out := make([]*big.Int, len(l))
	for i, x := range l {
		out[i] = times(x, c)
	}
	return out
}

// less is a without q times b.
func less(a []*big.Int, q *big.Int, b []*big.Int) []*big.Int {
	out := make([]*big.Int, len(a))
	for i := range a {
		out[i] = new(big.Int).Sub(a[i], times(q, b[i]))
	}
	return out
}

func dot(a, b []*big.Int) *big.Int {
	out := new(big.Int)
	for i := range a {
		out.Add(out, times(a[i], b[i]))
	}
	return out
}

func turned(a table) table {
	out := make(table, len(a[0]))
	for k := range out {
		for _, row := range a {
			out[k] = append(out[k], row[k])
		}
	}
	return out
}

// product is a b, which has a row for each column of a.
func product(a, b table) table {
	var out table
	for _, row := range a {
		sum := wholes(make([]int64, len(b[0]))...)
		for i, x := range row {
			sum = less(sum, new(big.Int).Neg(x), b[i])
		}
		out = append(out, sum)
	}
	return out
}

type fractions []*big.Rat

func fraction(a, b int64) *big.Rat {
	return big.NewRat(a, b)
}

func fractionsOf(l []*big.Int) fractions {
	var out fractions
	for _, x := range l {
		out = append(out, new(big.Rat).SetInt(x))
	}
	return out
}

func multiplied(x, y *big.Rat) *big.Rat {
	return new(big.Rat).Mul(x, y)
}

func dotFractions(a, b fractions) *big.Rat {
	out := new(big.Rat)
	for i := range a {
		out.Add(out, multiplied(a[i], b[i]))
	}
	return out
}

func lessFractions(a fractions, q *big.Rat, b fractions) fractions {
	out := make(fractions, len(a))
	for i := range a {
		out[i] = new(big.Rat).Sub(a[i], multiplied(q, b[i]))
	}
	return out
}

// eliminated are the rows of a after elimination, of which those that have become 0 are
// left out, the column in which each of them has its pivot, and the sign that the
// exchanges of rows have left.
func eliminated(a table) ([]fractions, []int, int) {
	var rest, done []fractions
	var pivots []int
	for _, row := range a {
		rest = append(rest, fractionsOf(row))
	}
	sign := 1
	for k := range a[0] {
		at := slices.IndexFunc(rest, func(row fractions) bool { return row[k].Sign() != 0 })
		if at < 0 {
			continue
		}
		pivot := rest[at]
		rest = slices.Delete(rest, at, at+1)
		done, pivots = append(done, pivot), append(pivots, k)
		if at%2 == 1 {
			sign = -sign
		}
		for i := range rest {
			rest[i] = lessFractions(rest[i], new(big.Rat).Quo(rest[i][k], pivot[k]), pivot)
		}
	}
	return done, pivots, sign
}

func independent(a table) bool {
	done, _, _ := eliminated(a)
	return len(done) == len(a)
}

func determinant(a table) *big.Int {
	done, _, sign := eliminated(a)
	if len(done) < len(a) {
		return new(big.Int)
	}
	out := fraction(int64(sign), 1)
	for i, row := range done {
		out.Mul(out, row[i])
	}
	return integral(out)
}

// integral is for fractions that are integers.
func integral(x *big.Rat) *big.Int {
	if !x.IsInt() {
		panic("not an integer")
	}
	return new(big.Int).Set(x.Num())
}

func gram(a table) table {
	return product(a, turned(a))
}

// inside are the integers by which v is a sum of rows that are independent, or nothing.
// It solves the equations of the columns, one for each, from the last unknown back.
func inside(a table, v []*big.Int) []*big.Int {
	done, pivots, _ := eliminated(turned(append(slices.Clone(a), v)))
	if len(pivots) > len(a) {
		return nil // an equation without an unknown
	}
	out := make([]*big.Int, len(a))
	for i, row := range slices.Backward(done) {
		x := row[len(a)]
		for k := i + 1; k < len(a); k++ {
			x = new(big.Rat).Sub(x, multiplied(row[k], new(big.Rat).SetInt(out[k])))
		}
		x = new(big.Rat).Quo(x, row[i])
		if !x.IsInt() {
			return nil
		}
		out[i] = integral(x)
	}
	return out
}

// orthogonal are the quantities m(i, j) and N(i) of rows that are independent.
func orthogonal(a table) ([]fractions, fractions) {
	m := make([]fractions, len(a))
	var norms fractions
	var rows []fractions
	for i := range a {
		row := fractionsOf(a[i])
		for j := range i {
			m[i] = append(m[i], new(big.Rat).Quo(dotFractions(fractionsOf(a[i]), rows[j]), norms[j]))
			row = lessFractions(row, m[i][j], rows[j])
		}
		rows = append(rows, row)
		norms = append(norms, dotFractions(row, row))
	}
	return m, norms
}

// great reports whether N(i) is at least (3/4 - m(i, i-1)^2) N(i-1).
func great(m []fractions, norms fractions, i int) bool {
	square := multiplied(m[i][i-1], m[i][i-1])
	return norms[i].Cmp(multiplied(new(big.Rat).Sub(fraction(3, 4), square), norms[i-1])) >= 0
}

func reduced(a table) bool {
	if !independent(a) {
		return false
	}
	m, norms := orthogonal(a)
	for i := range a {
		for j := range i {
			if new(big.Rat).Abs(m[i][j]).Cmp(fraction(1, 2)) > 0 {
				return false
			}
		}
		if i > 0 && !great(m, norms, i) {
			return false
		}
	}
	return true
}

// nearest is the integer nearest to x, the greater one of two.
func nearest(x *big.Rat) *big.Int {
	more := new(big.Rat).Add(x, fraction(1, 2))
	return new(big.Int).Div(more.Num(), more.Denom()) // rounded down, since the divisor is positive
}

// reduce is the algorithm, of rows that are independent, with rows counted from 1. The
// integers that make the rows stand in the same rows, to the right of what is given.
func reduce(a table) (table, table) {
	width := len(a[0])
	rows := make(table, len(a)+1)
	for i := range a {
		rows[i+1] = slices.Concat(a[i], diagonal(len(a), whole(1))[i])
	}
	quantities := func() ([]fractions, fractions) {
		var given table
		for _, row := range rows[1:] {
			given = append(given, row[:width])
		}
		return orthogonal(given)
	}
	k := 2
	for k <= len(a) {
		for j := k - 1; j >= 1; j-- {
			m, _ := quantities()
			rows[k] = less(rows[k], nearest(m[k-1][j-1]), rows[j])
		}
		if m, norms := quantities(); great(m, norms, k-1) {
			k++
			continue
		}
		rows[k], rows[k-1] = rows[k-1], rows[k]
		k = max(k-1, 2)
	}
	var out, u table
	for _, row := range rows[1:] {
		out = append(out, row[:width])
		u = append(u, row[width:])
	}
	return out, u
}
