package matrix

import (
	"math/big"
	"slices"
)

// What the package computes, by other ways and in another arithmetic.

func times(x, y *big.Int) *big.Int {
	return new(big.Int).Mul(x, y)
}

// raised is x to the power n.
func raised(x *big.Int, n int) *big.Int {
	return new(big.Int).Exp(x, whole(int64(n)), nil)
}

func negated(x *big.Int) *big.Int {
	return new(big.Int).Neg(x)
}

func scaled(l []*big.Int, c *big.Int) []*big.Int {
	out := make([]*big.Int, len(l))
	for i, x := range l {
		out[i] = times(x, c)
	}
	return out
}

func column(a table, k int) []*big.Int {
	var out []*big.Int
	for _, row := range a {
		out = append(out, row[k])
	}
	return out
}

func turned(a table) table {
	var out table
	for k := range a[0] {
		out = append(out, column(a, k))
	}
	return out
}

func dot(a, b []*big.Int) *big.Int {
	out := new(big.Int)
	for i := range a {
		out.Add(out, times(a[i], b[i]))
	}
	return out
}

func product(a, b table) table {
	var out table
	for _, row := range a {
		out = append(out, nil)
		for _, other := range turned(b) {
			out[len(out)-1] = append(out[len(out)-1], dot(row, other))
		}
	}
	return out
}

// diagonal has c in its diagonal, and 0 elsewhere.
func diagonal(n int, c *big.Int) table {
	out := zeros(n, n)
	for i := range n {
		out[i][i] = c
	}
	return out
}

func minor(a table, i, k int) table {
	var out table
	for j, row := range a {
		if j != i {
			out = append(out, slices.Delete(slices.Clone(row), k, k+1))
		}
	}
	return out
}

// expanded is the determinant in the chapter's words.
func expanded(a table) *big.Int {
	if len(a) == 1 {
		return a[0][0]
	}
	out := new(big.Int)
	for k, x := range a[0] {
		term := times(x, expanded(minor(a, 0, k)))
		if k%2 == 1 {
			term.Neg(term)
		}
		out.Add(out, term)
	}
	return out
}

// eliminated are the rows of a after elimination over the rational numbers, and the
// sign that the exchanges of rows have left.
func eliminated(a table) ([][]*big.Rat, int) {
	var rest, done [][]*big.Rat
	for _, row := range a {
		rest = append(rest, nil)
		for _, x := range row {
			rest[len(rest)-1] = append(rest[len(rest)-1], new(big.Rat).SetInt(x))
		}
	}
	sign := 1
	for k := range a[0] {
		at := slices.IndexFunc(rest, func(row []*big.Rat) bool { return row[k].Sign() != 0 })
		if at < 0 {
			continue
		}
		pivot := rest[at]
		rest = slices.Delete(rest, at, at+1)
		done = append(done, pivot)
		if at%2 == 1 {
			sign = -sign
		}
		for _, row := range rest {
			factor := new(big.Rat).Quo(row[k], pivot[k])
			for j := range row {
				row[j] = new(big.Rat).Sub(row[j], new(big.Rat).Mul(factor, pivot[j]))
			}
		}
	}
	return done, sign
}

func rank(a table) int {
	done, _ := eliminated(a)
	return len(done)
}

// determinant is the quick one.
func determinant(a table) *big.Int {
	done, sign := eliminated(a)
	if len(done) < len(a) {
		return new(big.Int)
	}
	out := new(big.Rat).SetInt64(int64(sign))
	for i, row := range done {
		out.Mul(out, row[i])
	}
	if !out.IsInt() {
		panic("the determinant of integers is an integer")
	}
	return new(big.Int).Set(out.Num())
}

func adjugate(a table) table {
	if len(a) == 1 {
		return rowsOf(1, 1)
	}
	out := zeros(len(a), len(a))
	for i := range a {
		for k := range a {
			out[i][k] = determinant(minor(a, k, i))
			if (i+k)%2 == 1 {
				out[i][k] = negated(out[i][k])
			}
		}
	}
	return out
}

// replaced is a with b as its column k.
func replaced(a table, b []*big.Int, k int) table {
	out := turned(a)
	out[k] = b
	return turned(out)
}

func solution(a table, b []*big.Int) []*big.Int {
	var out []*big.Int
	for k := range a {
		out = append(out, determinant(replaced(a, b, k)))
	}
	return out
}

func degree(p []*big.Int) int {
	n := len(p) - 1
	for n >= 0 && p[n].Sign() == 0 {
		n--
	}
	return n
}

// sylvester writes the reversed lists of coefficients into rows of zeros.
func sylvester(p, q []*big.Int) table {
	p, q = slices.Clone(p[:degree(p)+1]), slices.Clone(q[:degree(q)+1])
	slices.Reverse(p)
	slices.Reverse(q)
	m, n := len(p)-1, len(q)-1
	out := zeros(m+n, m+n)
	for i := range n {
		copy(out[i][i:], p)
	}
	for i := range m {
		copy(out[n+i][i:], q)
	}
	return out
}

func resultant(p, q []*big.Int) *big.Int {
	m, n := degree(p), degree(q)
	switch {
	case m < 0 || n < 0:
		return whole(0)
	case m+n == 0:
		return whole(1)
	}
	return determinant(sylvester(p, q))
}

// polyProduct multiplies polynomials.
func polyProduct(p, q []*big.Int) []*big.Int {
	out := wholes(make([]int64, len(p)+len(q))...)
	for i := range p {
		for k := range q {
			out[i+k].Add(out[i+k], times(p[i], q[k]))
		}
	}
	return out[:degree(out)+1]
}

// withRoots is the polynomial of these roots, times c.
func withRoots(c int64, roots ...int64) []*big.Int {
	out := wholes(c)
	for _, r := range roots {
		out = polyProduct(out, wholes(-r, 1))
	}
	return out
}
