package matrix

import (
	"math/big"
	"slices"
	"testing"

	"hairline/api"
)

func wantDet(t *testing.T, a table, want *big.Int) {
	t.Helper()
	for _, form := range forms(a) {
		got, code := Det(form)
		if code != api.OK {
			t.Fatalf("Det of %d: error %d", a, code)
		}
		if value(got).Cmp(want) != 0 {
			t.Fatalf("Det of %d: %d, want %d", a, value(got), want)
		}
		wantNormal(t, "Det", got)
	}
}

func TestK2Det(t *testing.T) {
	for _, c := range []struct {
		a    table
		want int64
	}{
		{rowsOf(2, 1, 2, 3, 4), -2},
		{rowsOf(1, 5), 5}, {rowsOf(1, -5), -5}, {rowsOf(1, 0), 0}, // one element
		{zeros(2, 2), 0}, {zeros(5, 5), 0},
		{rowsOf(2, 0, 1, 1, 0), -1}, {rowsOf(2, 0, 2, 3, 4), -6}, // 0 in the corner
		{rowsOf(3, 0, 1, 2, 1, 0, 3, 4, -3, 8), -2},
		{rowsOf(3, 0, 0, 2, 0, 3, 5, 4, 7, 1), -24},                    // and below it
		{rowsOf(3, 0, 0, 2, 3, 5, 7, 0, 4, 1), 24},                     // two exchanges
		{rowsOf(3, 1, 2, 3, 2, 4, 5, 3, 5, 6), -1},                     // a 0 that only the first step makes
		{rowsOf(3, 0, 1, 2, 0, 3, 4, 0, 5, 7), 0},                      // a whole column of 0, the first one
		{rowsOf(3, 1, 0, 2, 3, 0, 4, 5, 0, 7), 0},                      // one in the middle
		{rowsOf(3, 1, 2, 0, 3, 4, 0, 5, 7, 0), 0},                      // the last one
		{rowsOf(3, 0, 0, 0, 1, 2, 3, 4, 5, 7), 0},                      // a whole row of 0, the first one
		{rowsOf(3, 1, 2, 3, 0, 0, 0, 4, 5, 7), 0},                      // one in the middle
		{rowsOf(3, 1, 2, 3, 4, 5, 7, 0, 0, 0), 0},                      // the last one
		{rowsOf(3, 1, 2, 3, 4, 5, 7, 1, 2, 3), 0},                      // equal rows
		{rowsOf(3, 1, 2, 1, 4, 5, 4, 7, 9, 7), 0},                      // equal columns
		{rowsOf(3, 1, 2, 3, 4, 5, 6, 7, 8, 9), 0},                      // rows that depend on each other
		{rowsOf(3, 2, 4, 6, 3, 6, 9, 1, 0, 5), 0},                      // over the fractions only
		{rowsOf(3, 2, 0, 0, 0, 3, 0, 0, 0, -5), -30},                   // a diagonal
		{rowsOf(3, 2, 7, -9, 0, 3, 8, 0, 0, -5), -30},                  // above it
		{rowsOf(3, 2, 0, 0, 7, 3, 0, -9, 8, -5), -30},                  // below it
		{rowsOf(4, 0, 0, 0, 1, 0, 0, 1, 0, 0, 1, 0, 0, 1, 0, 0, 0), 1}, // the other diagonal
		{rowsOf(4, 1, 1, 1, 1, 1, 2, 4, 8, 1, 3, 9, 27, 1, 4, 16, 64), 12},
		{rowsOf(4, 3, 1, -1, 2, 1, 3, 1, -1, 2, 1, 4, 1, 1, 2, 0, 5), 193},
	} {
		wantDet(t, c.a, whole(c.want))
	}
}

func TestK2DetOfLongNumbers(t *testing.T) {
	one := whole(1)
	near := new(big.Int).Sub(shifted(1, 64), one)
	wantDet(t, table{{shifted(-3, 200)}}, shifted(-3, 200))
	wantDet(t, table{{shifted(1, 64), one}, {one, shifted(1, 64)}}, new(big.Int).Sub(shifted(1, 128), one))
	wantDet(t, table{{near, near}, {near, negated(near)}}, times(whole(-2), times(near, near)))
	wantDet(t, table{{shifted(1, 500), shifted(1, 300)}, {shifted(1, 400), shifted(1, 200)}}, whole(0))
	wantDet(t, table{{whole(0), shifted(1, 4096)}, {shifted(1, 4096), whole(0)}}, shifted(-1, 8192))
	wantDet(t, diagonal(24, shifted(-1, 100)), shifted(1, 2400))
	s := source(17)
	for _, n := range []int{12, 24} {
		a := s.table(n, n, 300)
		wantDet(t, a, determinant(a))
		a[n-1] = slices.Clone(a[2])
		wantDet(t, a, whole(0))
	}
}

func TestK2DetByTheChaptersWords(t *testing.T) {
	for _, a := range squares() {
		wantDet(t, a, expanded(a))
		if got := determinant(a); got.Cmp(expanded(a)) != 0 {
			t.Fatalf("the two truths about %d differ", a)
		}
	}
}

// Two rows exchanged, or two columns: the sign changes.
func TestK2DetOfExchangedRows(t *testing.T) {
	for _, a := range mixedSquares() {
		d := expanded(a)
		for i := range a {
			for k := range i {
				b := slices.Clone(a)
				b[i], b[k] = b[k], b[i]
				wantDet(t, b, negated(d))
				wantDet(t, turned(b), negated(d))
			}
		}
		wantDet(t, turned(a), d)
	}
}

// Each order of the rows of 1: the determinant is its sign.
func TestK2DetOfOrders(t *testing.T) {
	count := 0
	var try func(done, rest table)
	try = func(done, rest table) {
		if len(rest) == 0 {
			wantDet(t, done, expanded(done))
			count++
		}
		for i := range rest {
			try(append(slices.Clone(done), rest[i]), slices.Delete(slices.Clone(rest), i, i+1))
		}
	}
	try(nil, diagonal(5, whole(1)))
	if count != 120 {
		t.Fatalf("%d orders of 5 rows", count)
	}
}

func TestK2DetErrors(t *testing.T) {
	for _, a := range noMatrix() {
		got, code := Det(a)
		wantNoInteger(t, "Det, not valid", got, code, api.ErrArg)
	}
	for _, a := range notSquare() {
		got, code := Det(made(a))
		wantNoInteger(t, "Det, not square", got, code, api.ErrArg)
	}
}

func wantRank(t *testing.T, a table, want int) {
	t.Helper()
	for _, form := range forms(a) {
		got, code := Rank(form)
		if got != want || code != api.OK {
			t.Fatalf("Rank of %d: %d, error %d, want %d", a, got, code, want)
		}
	}
}

func TestK2Rank(t *testing.T) {
	for _, c := range []struct {
		a    table
		want int
	}{
		{rowsOf(2, 1, 2, 2, 4), 1}, {rowsOf(2, 1, 2, 3, 4), 2},
		{rowsOf(1, 0), 0}, {rowsOf(1, -7), 1},
		{zeros(1, 4), 0}, {zeros(4, 1), 0}, {zeros(3, 3), 0}, {zeros(2, 5), 0},
		{rowsOf(4, 0, 0, 0, 3), 1}, {rowsOf(1, 0, 0, 0, 3), 1}, {rowsOf(1, 1, 2, 3), 1}, {rowsOf(3, 1, 2, 3), 1},
		{rowsOf(2, 1, 2, 3, 4, 5, 6), 2}, {rowsOf(3, 1, 2, 3, 4, 5, 6), 2}, // more rows, more columns
		{rowsOf(2, 1, 2, 2, 4, 3, 6), 1}, {rowsOf(3, 1, 2, 3, 2, 4, 6), 1},
		{rowsOf(2, 2, 4, 3, 6), 1},                                         // no row is a multiple of the other by an integer
		{rowsOf(3, 2, 1, 0, 3, 0, 1, 13, 2, 3), 2},                         // the third one is twice the first and three times the second
		{rowsOf(3, 2, 0, 2, 0, 3, 3, 1, 1, 2), 2},                          // half the first one and a third of the second
		{rowsOf(3, 0, 1, 2, 0, 2, 4, 0, 0, 1), 2},                          // a column of 0 ahead
		{rowsOf(4, 0, 0, 1, 2, 0, 0, 2, 4, 0, 0, 0, 1), 2},                 // two
		{rowsOf(4, 1, 2, 3, 4, 1, 2, 3, 5, 1, 2, 3, 6), 2},                 // columns without a pivot between
		{rowsOf(5, 0, 1, 0, 2, 0, 0, 0, 0, 3, 0, 0, 5, 0, 1, 0), 2},        // and around
		{rowsOf(3, 0, 0, 0, 0, 0, 5), 1}, {rowsOf(2, 0, 0, 0, 0, 5, 0), 1}, // rows of 0 ahead
		{rowsOf(3, 1, 2, 3, 4, 5, 6, 7, 8, 9), 2}, {rowsOf(3, 1, 2, 3, 4, 5, 6, 7, 8, 10), 3},
		{diagonal(7, whole(-4)), 7},
	} {
		wantRank(t, c.a, c.want)
	}
}

func TestK2RankOfSamples(t *testing.T) {
	for _, a := range append(squares(), oblongs()...) {
		wantRank(t, a, rank(a))
	}
	s := source(521288629)
	for r := range 9 {
		wide, high := s.thin(9, 12, r, 100), s.thin(12, 9, r, 100)
		wantRank(t, wide, rank(wide))
		wantRank(t, high, rank(high))
		wantRank(t, turned(wide), rank(wide))
	}
}

func TestK2RankErrors(t *testing.T) {
	for _, a := range noMatrix() {
		if got, code := Rank(a); got != 0 || code != api.ErrArg {
			t.Fatalf("Rank of %v: %d, error %d", a, got, code)
		}
	}
}

// One row, or one column, of many elements.
func TestK2LongRows(t *testing.T) {
	l := make([]int64, 300_000)
	wantRank(t, rowsOf(len(l), l...), 0)
	l[len(l)-1] = 3
	wantRank(t, rowsOf(len(l), l...), 1)
	wantRank(t, rowsOf(1, l...), 1)
}
