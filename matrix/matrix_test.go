package matrix

import (
	"math/big"
	"testing"

	"hairline/api"
)

func TestK1Right(t *testing.T) {
	for _, a := range append(append(squares(), oblongs()...), notSquare()...) {
		for _, form := range forms(a) {
			if !Right(form) {
				t.Fatalf("%d is not valid", a)
			}
		}
	}
	for _, a := range noMatrix() {
		if Right(a) {
			t.Fatalf("%v is valid", a)
		}
	}
	if !Right([][]api.Int{{{}}}) || !Right([][]api.Int{{{}, {}}, {{}, {}}}) {
		t.Error("a matrix of zeros is not valid")
	}
}

func TestK1Mul(t *testing.T) {
	for _, c := range []struct{ a, b, want table }{
		{rowsOf(2, 1, 2, 3, 4), rowsOf(1, 1, 1), rowsOf(1, 3, 7)},
		{rowsOf(2, 1, 2, 3, 4), rowsOf(2, 0, 1, 1, 0), rowsOf(2, 2, 1, 4, 3)},
		{rowsOf(2, 0, 1, 1, 0), rowsOf(2, 1, 2, 3, 4), rowsOf(2, 3, 4, 1, 2)}, // the other order
		{rowsOf(1, -3), rowsOf(1, 5), rowsOf(1, -15)},
		{rowsOf(3, 1, 2, 3), rowsOf(1, 4, 5, 6), rowsOf(1, 32)},                             // a row by a column
		{rowsOf(1, 1, 2, 3), rowsOf(3, 4, 5, 6), rowsOf(3, 4, 5, 6, 8, 10, 12, 12, 15, 18)}, // a column by a row
		{rowsOf(1, 2), rowsOf(4, 1, -2, 0, 3), rowsOf(4, 2, -4, 0, 6)},
		{rowsOf(1, 1, -2, 0, 3), rowsOf(1, 2), rowsOf(1, 2, -4, 0, 6)},
		{rowsOf(2, 1, -1), rowsOf(1, 5, 5), rowsOf(1, 0)}, // sums that cancel
		{rowsOf(3, 1, 0, 2, 0, -1, 3), rowsOf(2, 4, 1, 0, -2, 5, 6), rowsOf(2, 14, 13, 15, 20)},
		{zeros(2, 3), rowsOf(1, 7, 8, 9), zeros(2, 1)},
	} {
		for i, form := range forms(c.a) {
			got, code := Mul(form, forms(c.b)[1-i])
			wantCode(t, "Mul", code, api.OK)
			wantTable(t, "Mul", got, c.want)
		}
	}
}

func TestK1MulOfPairs(t *testing.T) {
	all := oblongs()
	for _, a := range all {
		for _, b := range all {
			got, code := Mul(forms(a)[1], made(b))
			if len(a[0]) != len(b) {
				wantNoTable(t, "Mul of sizes that do not fit", got, code, api.ErrArg)
				continue
			}
			wantCode(t, "Mul", code, api.OK)
			wantTable(t, "Mul", got, product(a, b))
		}
	}
}

func TestK1MulErrors(t *testing.T) {
	for _, bad := range noMatrix() {
		for _, good := range append(notSquare(), mixedSquares()...) {
			got, code := Mul(bad, made(good))
			wantNoTable(t, "Mul, a not valid", got, code, api.ErrArg)
			got, code = Mul(made(good), bad)
			wantNoTable(t, "Mul, b not valid", got, code, api.ErrArg)
		}
		for _, other := range noMatrix() {
			got, code := Mul(bad, other)
			wantNoTable(t, "Mul, neither valid", got, code, api.ErrArg)
		}
	}
	got, code := Mul(of(3, 1, 2, 3, 4, 5, 6), of(3, 1, 2, 3, 4, 5, 6))
	wantNoTable(t, "as many rows, but not as many as columns", got, code, api.ErrArg)
	got, code = Mul(of(2, 1, 2, 3, 4), of(2, 1, 2, 3, 4, 5, 6))
	wantNoTable(t, "a row too many", got, code, api.ErrArg)
	got, code = Mul(of(2, 1, 2, 3, 4), of(2, 1, 2))
	wantNoTable(t, "a row too few", got, code, api.ErrArg)
}

func TestK1Turn(t *testing.T) {
	for _, c := range []struct{ a, want table }{
		{rowsOf(2, 1, 2, 3, 4), rowsOf(2, 1, 3, 2, 4)},
		{rowsOf(3, 1, 2, 3, 4, 5, 6), rowsOf(2, 1, 4, 2, 5, 3, 6)},
		{rowsOf(4, 1, -2, 0, 3), rowsOf(1, 1, -2, 0, 3)},
		{rowsOf(1, 1, -2, 0, 3), rowsOf(4, 1, -2, 0, 3)},
		{rowsOf(1, -7), rowsOf(1, -7)},
		{table{{shifted(1, 64)}, {shifted(-5, 130)}}, table{{shifted(1, 64), shifted(-5, 130)}}},
	} {
		for _, form := range forms(c.a) {
			got, code := Turn(form)
			wantCode(t, "Turn", code, api.OK)
			wantTable(t, "Turn", got, c.want)
		}
	}
	for _, a := range append(oblongs(), mixedSquares()...) {
		got, code := Turn(forms(a)[1])
		wantCode(t, "Turn", code, api.OK)
		wantTable(t, "Turn", got, turned(a))
		again, _ := Turn(got)
		wantTable(t, "Turn twice", again, a)
	}
	for _, bad := range noMatrix() {
		got, code := Turn(bad)
		wantNoTable(t, "Turn", got, code, api.ErrArg)
	}
}

// A zero is written in each way that there is.
func TestK1NormalForm(t *testing.T) {
	a := [][]api.Int{{{Neg: true}, {Mag: []uint64{0}}}, {{Neg: true, Mag: []uint64{0, 0}}, {Neg: true, Mag: []uint64{7, 0}}}}
	want := rowsOf(2, 0, 0, 0, -7)
	got, _ := Turn(a)
	wantTable(t, "Turn", got, want)
	got, _ = Mul(a, of(2, 1, 0, 0, 1))
	wantTable(t, "Mul by 1", got, want)
	got, _ = Mul(of(1, 1), [][]api.Int{{{Neg: true, Mag: []uint64{0}}, {Neg: true, Mag: []uint64{7, 0}}}})
	wantTable(t, "Mul of one by one", got, rowsOf(2, 0, -7))
	got, _ = Mul(of(1, -1), [][]api.Int{{{}, {Neg: true}}})
	wantTable(t, "Mul of -1 by 0", got, zeros(1, 2))
}

// One long row, and one long column.
func TestK1LongRows(t *testing.T) {
	l := make([]int64, 100_000)
	sum := new(big.Int)
	for i := range l {
		l[i] = int64(i%7 - 3)
		sum.Add(sum, whole(l[i]*l[i]))
	}
	row, upright := of(len(l), l...), of(1, l...)
	got, _ := Turn(row)
	wantTable(t, "Turn", got, rowsOf(1, l...))
	got, _ = Mul(row, upright)
	wantTable(t, "Mul", got, table{{sum}})
}
