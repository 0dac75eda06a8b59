package grid

import (
	"slices"
	"testing"

	"hairline/api"
)

func TestL1Norm(t *testing.T) {
	for _, g := range sheets() {
		for _, form := range forms(g) {
			wantGrid(t, "Norm", Norm(form), g)
		}
	}
	for _, form := range noughts() {
		wantGrid(t, "Norm of 0", Norm(form), nil)
	}
	row := append(of([]int64{5})[0], zeros()...)
	wantGrid(t, "Norm of a row with zeros at its end", Norm(api.Grid{row}), sheetOf([]int64{5}))
	wantGrid(t, "Norm of rows ahead of one", Norm(api.Grid{nil, zeros(), row, zeros()}), sheetOf(nil, nil, []int64{5}))
}

func TestL1Same(t *testing.T) {
	pairs(func(g, h sheet) {
		want := equal(g, h)
		others := forms(h)
		for i, form := range forms(g) {
			if got := Same(form, others[3-i]); got != want {
				t.Fatalf("Same of %d and %d: %t", g, h, got)
			}
		}
	})
	for _, g := range sheets() {
		for _, form := range forms(g) {
			for _, other := range forms(g) {
				if !Same(form, other) {
					t.Fatalf("%v and %v are not the same", form, other)
				}
			}
		}
	}
	for _, nought := range noughts() {
		for _, other := range noughts() {
			if !Same(nought, other) {
				t.Fatalf("%v and %v are not the same", nought, other)
			}
		}
		if g := of(nil, []int64{0, 1}); Same(nought, g) || Same(g, nought) {
			t.Fatalf("%v is the same as x y", nought)
		}
	}
}

// Grids that differ in one number, or in where it stands.
func TestL1SameOfNearGrids(t *testing.T) {
	base := sheetOf([]int64{1, 2}, nil, []int64{3})
	for _, other := range []sheet{
		sheetOf([]int64{1, 2}, nil, []int64{-3}), sheetOf([]int64{1, 2}, nil, []int64{4}), sheetOf([]int64{1, 2}, []int64{3}),
		sheetOf([]int64{1, 2}, nil, nil, []int64{3}), sheetOf([]int64{1, 2}, nil, []int64{0, 3}), sheetOf([]int64{1, 2}, nil, []int64{3, 1}),
		sheetOf([]int64{1, 2}, nil, []int64{3}, []int64{1}), sheetOf([]int64{1, 2}), sheetOf([]int64{1}, nil, []int64{3}),
		sheetOf([]int64{0, 2}, nil, []int64{3}), sheetOf([]int64{1, 2}, []int64{1}, []int64{3}), turned(base),
	} {
		for i, form := range forms(base) {
			near := forms(other)[3-i]
			if Same(form, near) || Same(near, form) {
				t.Fatalf("%d and %d are the same", base, other)
			}
		}
	}
}

func TestL1Degrees(t *testing.T) {
	for _, g := range sheets() {
		x, y := degrees(g)
		for _, form := range forms(g) {
			if gotX, gotY := Degrees(form); gotX != x || gotY != y {
				t.Fatalf("Degrees of %v: %d, %d, want %d, %d", form, gotX, gotY, x, y)
			}
		}
	}
	for _, form := range noughts() {
		if x, y := Degrees(form); x != -1 || y != -1 {
			t.Fatalf("Degrees of %v: %d, %d", form, x, y)
		}
	}
	for _, c := range []struct {
		g    api.Grid
		x, y int
	}{
		{of([]int64{5}), 0, 0}, {of([]int64{0, 1}), 0, 1}, {of(nil, []int64{1}), 1, 0},
		{of([]int64{0, 0, 0, 1}, nil, []int64{1}), 2, 3}, // not of the same term
		{of([]int64{1}, nil, []int64{0, 0, 0, 1}), 2, 3}, {of(nil, []int64{0, 0, 0, 1}, []int64{1, 1}), 2, 3},
		{api.Grid{{{}, {}, {}}, of([]int64{1})[0], {{Neg: true}}}, 1, 0}, // longer rows of zeros
	} {
		if x, y := Degrees(c.g); x != c.x || y != c.y {
			t.Fatalf("Degrees of %v: %d, %d, want %d, %d", c.g, x, y, c.x, c.y)
		}
	}
}

func TestL1AddSubMul(t *testing.T) {
	for _, c := range []struct {
		g, h               sheet
		sum, rest, product sheet
	}{
		{
			sheetOf([]int64{0, 1}, []int64{1}), sheetOf([]int64{0, -1}, []int64{1}), // x + y, x - y
			monomial(2, 1, 0), monomial(2, 0, 1), sheetOf([]int64{0, 0, -1}, nil, []int64{1}),
		},
		{sheetOf([]int64{3}), sheetOf([]int64{-3}), nil, sheetOf([]int64{6}), sheetOf([]int64{-9})},
		{monomial(1, 2, 0), monomial(1, 0, 3), sheetOf([]int64{0, 0, 0, 1}, nil, []int64{1}), sheetOf([]int64{0, 0, 0, -1}, nil, []int64{1}), monomial(1, 2, 3)},
		{ // less in x, less in y
			sheetOf([]int64{1, 2}, nil, []int64{3}), sheetOf([]int64{1, 2}, nil, []int64{-3}),
			sheetOf([]int64{2, 4}), monomial(6, 2, 0), sheetOf([]int64{1, 4, 4}, nil, nil, nil, []int64{-9}),
		},
		{
			sheetOf([]int64{1, 2}, []int64{3, 4}), sheetOf([]int64{1, -2}, []int64{3, -4}),
			sheetOf([]int64{2}, []int64{6}), sheetOf([]int64{0, 4}, []int64{0, 8}), sheetOf([]int64{1, 0, -4}, []int64{6, 0, -16}, []int64{9, 0, -16}),
		},
		{ // products that cancel
			sheetOf([]int64{0, 0, 1}, []int64{0, 1}, []int64{1}), sheetOf([]int64{0, -1}, []int64{1}),
			sheetOf([]int64{0, -1, 1}, []int64{1, 1}, []int64{1}), sheetOf([]int64{0, 1, 1}, []int64{-1, 1}, []int64{1}),
			sheetOf([]int64{0, 0, 0, -1}, nil, nil, []int64{1}),
		},
	} {
		others := forms(c.h)
		for i, form := range forms(c.g) {
			wantGrid(t, "Add", Add(form, others[3-i]), c.sum)
			wantGrid(t, "Add", Add(others[3-i], form), c.sum)
			wantGrid(t, "Sub", Sub(form, others[3-i]), c.rest)
			wantGrid(t, "Mul", Mul(form, others[3-i]), c.product)
			wantGrid(t, "Mul", Mul(others[3-i], form), c.product)
		}
	}
}

func TestL1OfPairs(t *testing.T) {
	pairs(func(g, h sheet) {
		i := len(g) % 4
		a, b := forms(g)[i], forms(h)[3-i]
		wantGrid(t, "Add", Add(a, b), combined(g, h, 1))
		wantGrid(t, "Sub", Sub(a, b), combined(g, h, -1))
		wantGrid(t, "Mul", Mul(a, b), product(g, h))
	})
}

func TestL1OfZero(t *testing.T) {
	for _, g := range sheets() {
		for i, nought := range noughts() {
			form := forms(g)[i%4]
			wantGrid(t, "g + 0", Add(form, nought), g)
			wantGrid(t, "0 + g", Add(nought, form), g)
			wantGrid(t, "g - 0", Sub(form, nought), g)
			wantGrid(t, "0 - g", Sub(nought, form), combined(nil, g, -1))
			wantGrid(t, "g 0", Mul(form, nought), nil)
			wantGrid(t, "0 g", Mul(nought, form), nil)
			wantGrid(t, "g - g", Sub(form, made(g)), nil)
			wantGrid(t, "g + -g", Add(form, made(combined(nil, g, -1))), nil)
		}
	}
	for _, nought := range noughts() {
		for _, other := range noughts() {
			wantGrid(t, "0 + 0", Add(nought, other), nil)
			wantGrid(t, "0 - 0", Sub(nought, other), nil)
			wantGrid(t, "0 0", Mul(nought, other), nil)
		}
	}
}

// Few terms with great powers, and rows of very different lengths.
func TestL1GreatPowers(t *testing.T) {
	const n = 200_000
	g := monomial(3, n, 0)
	g[0] = monomial(-2, 0, n)[0]
	if x, y := Degrees(made(g)); x != n || y != n {
		t.Fatalf("Degrees: %d, %d", x, y)
	}
	square := Mul(made(g), made(g))
	want := make(sheet, 2*n+1)
	want[0] = monomial(4, 0, 2*n)[0]
	want[n] = monomial(-12, 0, n)[0]
	want[2*n] = list(9)
	wantGrid(t, "Mul", square, want)
	back := Turn(made(g))
	if len(back) != n+1 || len(back[0]) != n+1 || len(back[n]) != 1 || !Same(Turn(back), made(g)) {
		t.Fatal("Turn is wrong")
	}
	if slices.ContainsFunc(back[1:n], func(row []api.Int) bool { return len(row) > 0 }) {
		t.Fatal("rows between are not empty")
	}
	wantGrid(t, "Sub", Sub(square, Mul(made(g), made(g))), nil)
}
