package matrix

import (
	"slices"

	"hairline/api"
	"hairline/zed"
)

// elimination is Bareiss elimination under way: each step takes one column, gives it
// a row with a pivot, and subtracts multiples of that row from others.
//
// After each step the elements still in use are, up to their signs, determinants of
// parts of the matrix. So the division that ends a step is exact, and numbers stay as
// short as determinants are.
type elimination struct {
	rows     [][]api.Int
	pivotRow []int   // for each column the row of its pivot, or -1 without one
	steps    int     // how many are done; the rows ahead of this one have a pivot
	pivot    api.Int // that of the last step, or 1 ahead of the first one
	odd      bool    // whether the number of exchanges of rows is odd
}

// begin prepares the elimination of rows of the given length. It copies the rows, but
// not the limbs of their elements, which no step writes to.
func begin(rows [][]api.Int, columns int) *elimination {
	e := &elimination{pivot: zed.Of(1), pivotRow: slices.Repeat([]int{-1}, columns)}
	for _, row := range rows {
		e.rows = append(e.rows, slices.Clone(row))
	}
	return e
}

// run makes the steps, in which the rows that rowOut names are left out. They are left
// early where more columns than gaps have no pivot: all determinants are 0 then.
func (e *elimination) run(gaps int, rowOut func(row int) bool) {
	columnOut := func(column int) bool { return e.pivotRow[column] >= 0 }
steps:
	for column := range e.pivotRow {
		for row := e.steps; row < len(e.rows); row++ {
			if zed.Sign(e.rows[row][column]) != 0 {
				e.exchange(row, e.steps)
				e.step(column, rowOut, columnOut)
				continue steps
			}
		}
		gaps--
		if gaps < 0 {
			break steps
		}
	}
}

func (e *elimination) exchange(i, k int) {
	if i != k {
		e.rows[i], e.rows[k] = e.rows[k], e.rows[i]
		e.odd = !e.odd
	}
}

// step takes as pivot the element of a column in the first row without a pivot. The
// rows and columns that are left out keep their elements, which nobody reads again,
// but for those of the pivot's own row.
func (e *elimination) step(column int, rowOut, columnOut func(n int) bool) {
	source := e.rows[e.steps]
	pivot := source[column]
	e.pivotRow[column] = e.steps
	for i, row := range e.rows {
		if rowOut(i) {
			continue
		}
		factor := row[column]
		for k := range row {
			if columnOut(k) {
				continue
			}
			rest := zed.Sub(zed.Mul(row[k], pivot), zed.Mul(factor, source[k]))
			row[k], _, _ = zed.DivMod(rest, e.pivot)
		}
	}
	e.pivot = pivot
	e.steps++
}
