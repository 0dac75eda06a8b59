package grid

import (
	"math/big"
	"slices"
)

// The functions of this file find the same results by other ways.

// coefficient is that of x^i y^j, which may lie outside of g.
func coefficient(g sheet, i, j int) *big.Int {
	if i < len(g) && j < len(g[i]) {
		return g[i][j]
	}
	return new(big.Int)
}

func width(g sheet) int {
	n := 0
	for _, row := range g {
		n = max(n, len(row))
	}
	return n
}

// filled is the grid of so many rows and columns whose coefficients c tells.
func filled(rows, columns int, c func(i, j int) *big.Int) sheet {
	var out sheet
	for i := range rows {
		var row []*big.Int
		for j := range columns {
			row = append(row, c(i, j))
		}
		out = append(out, row)
	}
	return cut(out)
}

// combined is g + factor h.
func combined(g, h sheet, factor int64) sheet {
	return filled(max(len(g), len(h)), max(width(g), width(h)), func(i, j int) *big.Int {
		c := new(big.Int).Mul(whole(factor), coefficient(h, i, j))
		return c.Add(c, coefficient(g, i, j))
	})
}

// product finds each coefficient as a sum of products.
func product(g, h sheet) sheet {
	return filled(len(g)+len(h), width(g)+width(h), func(i, j int) *big.Int {
		sum := new(big.Int)
		for k := range i + 1 {
			for l := range j + 1 {
				sum.Add(sum, new(big.Int).Mul(coefficient(g, k, l), coefficient(h, i-k, j-l)))
			}
		}
		return sum
	})
}

func turned(g sheet) sheet {
	return filled(width(g), len(g), func(i, j int) *big.Int { return coefficient(g, j, i) })
}

func degrees(g sheet) (int, int) {
	return len(g) - 1, width(g) - 1
}

func power(x *big.Int, n int) *big.Int {
	return new(big.Int).Exp(x, whole(int64(n)), nil)
}

// putX sums up each power of y with the powers of x.
func putX(g sheet, x *big.Int) []*big.Int {
	var out []*big.Int
	for j := range width(g) {
		sum := new(big.Int)
		for i := range g {
			sum.Add(sum, new(big.Int).Mul(coefficient(g, i, j), power(x, i)))
		}
		out = append(out, sum)
	}
	return cutList(out)
}

func valueAt(g sheet, x, y *big.Int) *big.Int {
	return polyAt(putX(g, x), y)
}

func polyAt(p []*big.Int, x *big.Int) *big.Int {
	sum := new(big.Int)
	for i, c := range p {
		sum.Add(sum, new(big.Int).Mul(c, power(x, i)))
	}
	return sum
}

// sylvester is the matrix of g and h as polynomials in y. Each of its elements is a
// polynomial in x, written as a grid without y.
func sylvester(g, h sheet) [][]sheet {
	_, m := degrees(g)
	_, n := degrees(h)
	out := make([][]sheet, m+n)
	for i := range out {
		source, highest := g, m+i
		if i >= n {
			source, highest = h, i
		}
		for k := range out {
			element := filled(len(source), 1, func(x, _ int) *big.Int {
				if k > highest {
					return new(big.Int)
				}
				return coefficient(source, x, highest-k)
			})
			out[i] = append(out[i], element)
		}
	}
	return out
}

// expanded is the determinant by expansion along the first row.
func expanded(a [][]sheet) sheet {
	if len(a) == 0 {
		return sheetOf([]int64{1})
	}
	var sum sheet
	sign := int64(1)
	for k := range a {
		var rest [][]sheet
		for _, row := range a[1:] {
			rest = append(rest, slices.Delete(slices.Clone(row), k, k+1))
		}
		if len(a[0][k]) > 0 {
			sum = combined(sum, product(a[0][k], expanded(rest)), sign)
		}
		sign = -sign
	}
	return sum
}

// resultant is what the chapter's words say.
func resultant(g, h sheet) []*big.Int {
	if len(g) == 0 || len(h) == 0 {
		return nil
	}
	if width(g) == 1 && width(h) == 1 {
		return list(1)
	}
	var out []*big.Int
	for _, row := range expanded(sylvester(g, h)) {
		out = append(out, coefficient(sheet{row}, 0, 0))
	}
	return out
}

// resultantAt is the same determinant with a number for x, by elimination in
// fractions.
func resultantAt(g, h sheet, x *big.Int) *big.Int {
	var rows [][]*big.Rat
	for _, row := range sylvester(g, h) {
		var l []*big.Rat
		for _, element := range row {
			l = append(l, new(big.Rat).SetInt(valueAt(element, x, x)))
		}
		rows = append(rows, l)
	}
	out := big.NewRat(1, 1)
	for i := range rows {
		k := i
		for k < len(rows) && rows[k][i].Sign() == 0 {
			k++
		}
		if k == len(rows) {
			return new(big.Int)
		}
		if k > i {
			rows[i], rows[k] = rows[k], rows[i]
			out.Neg(out)
		}
		out.Mul(out, rows[i][i])
		for _, row := range rows[i+1:] {
			factor := new(big.Rat).Quo(row[i], rows[i][i])
			for j := range row {
				row[j] = new(big.Rat).Sub(row[j], new(big.Rat).Mul(factor, rows[i][j]))
			}
		}
	}
	return out.Num()
}
