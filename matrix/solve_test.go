package matrix

import (
	"math/big"
	"testing"

	"hairline/api"
)

func wantAdjugate(t *testing.T, a, want table) {
	t.Helper()
	for _, form := range forms(a) {
		got, code := Adjugate(form)
		if code != api.OK {
			t.Fatalf("Adjugate of %d: error %d", a, code)
		}
		wantTable(t, "Adjugate", got, want)
	}
}

func TestK3Adjugate(t *testing.T) {
	for _, c := range []struct{ a, want table }{
		{rowsOf(2, 1, 2, 3, 4), rowsOf(2, 4, -2, -3, 1)},
		{rowsOf(1, 5), rowsOf(1, 1)}, {rowsOf(1, -5), rowsOf(1, 1)}, {rowsOf(1, 0), rowsOf(1, 1)}, // one row
		{rowsOf(2, 0, 1, 0, 0), rowsOf(2, 0, -1, 0, 0)}, {rowsOf(2, 0, 0, 3, 0), rowsOf(2, 0, 0, -3, 0)},
		{rowsOf(2, 1, 2, 2, 4), rowsOf(2, 4, -2, -2, 1)}, // determinant 0
		{zeros(2, 2), zeros(2, 2)}, {zeros(4, 4), zeros(4, 4)},
		{rowsOf(3, 1, 2, 3, 4, 5, 6, 7, 8, 9), rowsOf(3, -3, 6, -3, 6, -12, 6, -3, 6, -3)}, // and rank 2
		{rowsOf(3, 1, 2, 3, 2, 4, 6, -1, -2, -3), zeros(3, 3)},                             // and rank 1
		{rowsOf(3, 2, 0, 0, 0, 3, 0, 0, 0, -5), rowsOf(3, -15, 0, 0, 0, -10, 0, 0, 0, 6)},
		{rowsOf(3, 2, 0, 0, 0, 3, 0, 0, 0, 0), rowsOf(3, 0, 0, 0, 0, 0, 0, 0, 0, 6)},
		{rowsOf(3, 0, 0, 0, 0, 3, 0, 0, 0, 5), rowsOf(3, 15, 0, 0, 0, 0, 0, 0, 0, 0)},
		{rowsOf(3, 0, 1, 0, 0, 0, 1, 1, 0, 0), rowsOf(3, 0, 0, 1, 1, 0, 0, 0, 1, 0)}, // an order of rows
		{rowsOf(3, 1, 0, 0, 0, 0, 1, 0, 1, 0), rowsOf(3, -1, 0, 0, 0, 0, -1, 0, -1, 0)},
		{rowsOf(3, 1, 2, 3, 0, 1, 4, 5, 6, 0), rowsOf(3, -24, 18, 5, 20, -15, -4, -5, 4, 1)},
		{table{{shifted(1, 64), shifted(3, 100)}, {shifted(-5, 70), whole(0)}}, table{{whole(0), shifted(-3, 100)}, {shifted(5, 70), shifted(1, 64)}}},
	} {
		wantAdjugate(t, c.a, c.want)
	}
}

func TestK3AdjugateOfSamples(t *testing.T) {
	for _, a := range squares() {
		wantAdjugate(t, a, adjugate(a))
	}
}

// a times its adjugate, in both orders, has the determinant in its diagonal.
func TestK3AdjugateTimesA(t *testing.T) {
	s := source(362436069)
	for n := 1; n <= 12; n++ {
		for _, a := range []table{s.table(n, n, 64), s.table(n, n, 5), s.thin(n, n, n-1, 40)} {
			form := made(a)
			adj, code := Adjugate(form)
			wantCode(t, "Adjugate", code, api.OK)
			want := diagonal(n, determinant(a))
			got, _ := Mul(form, adj)
			wantTable(t, "a times its adjugate", got, want)
			got, _ = Mul(adj, form)
			wantTable(t, "the adjugate times a", got, want)
		}
	}
}

// Only one minor has a determinant other than 0, each one in its turn.
func TestK3AdjugateWithOneElement(t *testing.T) {
	for _, n := range []int{2, 3, 4, 5} {
		for i := range n {
			for k := range n {
				a, want := zeros(n, n), zeros(n, n)
				for j := range n - 1 {
					row, column := j, j
					if row >= i {
						row++
					}
					if column >= k {
						column++
					}
					a[row][column] = whole(2)
				}
				want[k][i] = whole(1 << (n - 1))
				if (i+k)%2 == 1 {
					want[k][i].Neg(want[k][i])
				}
				wantAdjugate(t, a, want)
			}
		}
	}
}

func TestK3AdjugateErrors(t *testing.T) {
	for _, a := range noMatrix() {
		got, code := Adjugate(a)
		wantNoTable(t, "Adjugate, not valid", got, code, api.ErrArg)
	}
	for _, a := range notSquare() {
		got, code := Adjugate(made(a))
		wantNoTable(t, "Adjugate, not square", got, code, api.ErrArg)
	}
}

func wantSolution(t *testing.T, a table, b, x []*big.Int, d *big.Int) {
	t.Helper()
	for i, form := range forms(a) {
		right := [][]api.Int{longs(b), integers(b)}[i]
		gotX, gotD, code := Solve(form, right)
		if code != api.OK {
			t.Fatalf("Solve of %d and %d: error %d", a, b, code)
		}
		wantList(t, "x", gotX, x)
		wantInteger(t, "d", gotD, d)
	}
	if !equalList(column(product(a, turned(table{x})), 0), scaled(b, d)) {
		t.Fatalf("a x is not d b: %d, %d, %d, %d", a, b, x, d)
	}
}

func wantNoSolution(t *testing.T, a [][]api.Int, b []api.Int, want api.Errno) {
	t.Helper()
	x, d, code := Solve(a, b)
	wantNoInteger(t, "Solve", d, code, want)
	if len(x) != 0 {
		t.Fatalf("Solve: %v beside an error", x)
	}
}

func TestK3Solve(t *testing.T) {
	for _, c := range []struct {
		a    table
		b, x []*big.Int
		d    int64
	}{
		{rowsOf(2, 1, 2, 3, 4), wholes(5, 6), wholes(8, -9), -2},
		{rowsOf(1, 3), wholes(7), wholes(7), 3}, {rowsOf(1, -3), wholes(7), wholes(7), -3}, {rowsOf(1, 3), wholes(0), wholes(0), 3}, // one row
		{rowsOf(2, 1, 0, 0, 1), wholes(-4, 9), wholes(-4, 9), 1},
		{rowsOf(2, 0, 1, 1, 0), wholes(-4, 9), wholes(-9, 4), -1}, // 0 in the corner, d negative
		{rowsOf(2, 2, 0, 0, 2), wholes(4, -2), wholes(8, -4), 4},
		{rowsOf(2, 3, 4, 1, 2), wholes(6, 5), wholes(-8, 9), 2}, // the rows of the example exchanged
		{rowsOf(2, 1, 2, 3, 4), wholes(0, 0), wholes(0, 0), -2},
		{rowsOf(2, 1, 2, 3, 4), wholes(1, 3), wholes(-2, 0), -2}, // b is a column of a
		{rowsOf(2, 1, 2, 3, 4), wholes(2, 4), wholes(0, -2), -2}, // b is the other one
		{rowsOf(3, 0, 0, 2, 0, 3, 0, 5, 0, 0), wholes(1, 1, 1), wholes(-6, -10, -15), -30},
		{rowsOf(3, 1, 2, 3, 0, 1, 4, 5, 6, 0), wholes(1, 0, 2), wholes(-14, 12, -3), 1},
	} {
		wantSolution(t, c.a, c.b, c.x, whole(c.d))
	}
}

func TestK3SolveSamples(t *testing.T) {
	s := source(17)
	for _, a := range squares() {
		b := s.list(len(a), 90)
		if d := determinant(a); d.Sign() != 0 {
			wantSolution(t, a, b, solution(a, b), d)
			continue
		}
		for _, form := range forms(a) {
			wantNoSolution(t, form, integers(b), api.ErrNone)
			wantNoSolution(t, form, longs(column(a, 0)), api.ErrNone) // though there is an x
			wantNoSolution(t, form, make([]api.Int, len(a)), api.ErrNone)
		}
	}
}

func TestK3SolveLongNumbers(t *testing.T) {
	s := source(88172645463325252)
	for _, n := range []int{9, 10} {
		a, b := s.table(n, n, 200), s.list(n, 300)
		wantSolution(t, a, b, solution(a, b), determinant(a))
	}
	a, b := s.table(24, 24, 200), s.list(24, 300)
	x, d, code := Solve(made(a), integers(b))
	wantCode(t, "Solve", code, api.OK)
	wantInteger(t, "d", d, determinant(a))
	got, _ := Mul([][]api.Int{x}, made(turned(a)))
	wantTable(t, "a x", got, table{scaled(b, value(d))})
}

func TestK3SolveErrors(t *testing.T) {
	b := integers(wholes(5, 6, 7, 8, 9))
	for _, a := range noMatrix() {
		for n := range b {
			wantNoSolution(t, a, b[:n], api.ErrArg)
		}
		wantNoSolution(t, a, nil, api.ErrArg)
	}
	for _, a := range notSquare() {
		for n := range b {
			wantNoSolution(t, made(a), b[:n], api.ErrArg)
		}
	}
	for _, a := range []table{rowsOf(1, 3), rowsOf(2, 1, 2, 3, 4), rowsOf(3, 1, 2, 3, 0, 1, 4, 5, 6, 0)} {
		for n := range b {
			if n != len(a) {
				wantNoSolution(t, made(a), b[:n], api.ErrArg) // too short or too long
			}
		}
	}
	for _, a := range []table{rowsOf(1, 0), rowsOf(2, 1, 2, 2, 4), zeros(3, 3)} {
		wantNoSolution(t, made(a), b[:len(a)], api.ErrNone)
		wantNoSolution(t, made(a), b[:len(a)-1], api.ErrArg) // both errors: the first one
		wantNoSolution(t, made(a), b[:len(a)+1], api.ErrArg)
		wantNoSolution(t, made(a), nil, api.ErrArg)
	}
}
