package matrix

import (
	"slices"

	"hairline/api"
)

// Det returns the determinant, or ErrArg if a is not square.
func Det(a [][]api.Int) (api.Int, api.Errno) {
	if !square(a) {
		return api.Int{}, api.ErrArg
	}
	e := triangle(a, 0)
	if e.steps < len(a) {
		return api.Int{}, api.OK
	}
	return signed(e.pivot, e.odd), api.OK
}

// Rank returns how many rows are linearly independent at most, or ErrArg if a is not
// valid.
func Rank(a [][]api.Int) (int, api.Errno) {
	if !Right(a) {
		return 0, api.ErrArg
	}
	return triangle(a, len(a[0])).steps, api.OK
}

// triangle eliminates below the pivots: the rows that have one are left out.
func triangle(a [][]api.Int, gaps int) *elimination {
	e := begin(a, len(a[0]))
	e.run(gaps, func(row int) bool { return row <= e.steps })
	return e
}

// cross returns, for rows with one element more than there are rows, the determinants
// of what remains after deleting one column, from the first column to the last, with
// alternating signs starting with +. There may be no rows: the determinant of nothing
// is 1.
func cross(rows [][]api.Int) []api.Int {
	out := make([]api.Int, len(rows)+1)
	e := begin(rows, len(out))
	// Below and above the pivots: of each row its pivot and one more element remain.
	e.run(1, func(row int) bool { return row == e.steps })
	if e.steps < len(rows) {
		return out
	}
	// The determinants solve all rows for 0. So do the last pivot, for the column
	// without one, and the negatives of the elements of that column, for the others;
	// and the last pivot is the determinant of these others, up to its sign.
	gap := slices.Index(e.pivotRow, -1)
	negative := e.odd != (gap%2 == 1)
	for column, row := range e.pivotRow {
		if column == gap {
			out[column] = signed(e.pivot, negative)
		} else {
			out[column] = signed(e.rows[row][gap], !negative)
		}
	}
	return out
}
