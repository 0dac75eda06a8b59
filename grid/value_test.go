package grid

import (
	"math/big"
	"testing"
)

func TestL2Examples(t *testing.T) {
	g := of([]int64{0, 0, -1}, nil, []int64{1}) // x^2 - y^2
	wantList(t, "PutX", PutX(g, integer(whole(3))), list(9, 0, -1))
	wantList(t, "PutY", PutY(g, integer(whole(3))), list(-9, 0, 1))
	wantGrid(t, "Turn", Turn(g), sheetOf([]int64{0, 0, 1}, nil, []int64{-1}))
	wantInteger(t, "Value", Value(g, integer(whole(5)), integer(whole(-3))), whole(16))
}

func TestL2ValuePutXPutY(t *testing.T) {
	for _, g := range sheets() {
		for i, x := range points() {
			form := forms(g)[i%4]
			for _, a := range integerForms(x) {
				wantList(t, "PutX", PutX(form, a), putX(g, x))
				wantList(t, "PutY", PutY(form, a), putX(turned(g), x))
			}
			for k, y := range points() {
				wantInteger(t, "Value", Value(form, integerForms(x)[k%2], integerForms(y)[i%2]), valueAt(g, x, y))
			}
		}
	}
}

// x and y are not taken for each other.
func TestL2EachUnknown(t *testing.T) {
	two, seven, zero := integer(whole(2)), integer(whole(7)), integer(whole(0))
	for _, c := range []struct {
		g    sheet
		want int64 // at x = 2, y = 7
		x, y []*big.Int
	}{
		{sheetOf([]int64{5}), 5, list(5), list(5)},
		{monomial(3, 2, 0), 12, list(12), list(0, 0, 3)},   // x only
		{monomial(3, 0, 2), 147, list(0, 0, 3), list(147)}, // y only
		{monomial(1, 2, 1), 28, list(0, 4), list(0, 0, 7)},
		{monomial(1, 1, 2), 98, list(0, 0, 2), list(0, 49)},
		{sheetOf([]int64{1, 2}, nil, []int64{3}), 27, list(13, 2), list(15, 0, 3)},
		{sheetOf([]int64{0, 2}, []int64{0, -1}), 0, nil, list(14, -7)},           // 2y - xy: 0 at x = 2
		{sheetOf([]int64{7, -1}, []int64{14, -2}), 0, list(35, -5), nil},         // 0 at y = 7
		{sheetOf([]int64{-4, 1}, nil, []int64{1}), 7, list(0, 1), list(3, 0, 1)}, // a term that vanishes
		{sheetOf([]int64{1, 2}, []int64{0, -1}), 1, list(1), list(15, -7)},       // a shorter result
	} {
		for _, form := range forms(c.g) {
			wantInteger(t, "Value", Value(form, two, seven), whole(c.want))
			wantList(t, "PutX", PutX(form, two), c.x)
			wantList(t, "PutY", PutY(form, seven), c.y)
			wantInteger(t, "Value at 0, 0", Value(form, zero, long(zero)), coefficient(c.g, 0, 0))
		}
	}
}

func TestL2OfZero(t *testing.T) {
	for _, nought := range noughts() {
		for _, x := range points() {
			wantInteger(t, "Value of 0", Value(nought, integer(x), integer(x)), whole(0))
			wantList(t, "PutX of 0", PutX(nought, integer(x)), nil)
			wantList(t, "PutY of 0", PutY(nought, integer(x)), nil)
		}
		wantGrid(t, "Turn of 0", Turn(nought), nil)
	}
}

func TestL2Turn(t *testing.T) {
	for _, g := range sheets() {
		for _, form := range forms(g) {
			got := Turn(form)
			wantGrid(t, "Turn", got, turned(g))
			wantGrid(t, "Turn of Turn", Turn(got), g)
		}
	}
	for _, c := range []struct{ g, want sheet }{
		{monomial(-3, 4, 2), monomial(-3, 2, 4)},
		{sheetOf([]int64{1, 2, 3}), sheetOf([]int64{1}, []int64{2}, []int64{3})},
		{sheetOf([]int64{1, 2}, nil, []int64{0, 0, 0, 4}), sheetOf([]int64{1}, []int64{2}, nil, []int64{0, 0, 4})},
	} {
		for _, form := range forms(c.g) {
			wantGrid(t, "Turn", Turn(form), c.want)
		}
	}
}

// Values agree with sums and products.
func TestL2OfSumsAndProducts(t *testing.T) {
	x, y := whole(-3), shifted(5, 70)
	for _, g := range mixedSheets() {
		for _, h := range mixedSheets() {
			at := func(k sheet) *big.Int { return value(Value(made(k), integer(x), integer(y))) }
			a, b := at(g), at(h)
			wantInteger(t, "Value of a sum", Value(Add(made(g), made(h)), integer(x), integer(y)), new(big.Int).Add(a, b))
			wantInteger(t, "Value of a product", Value(Mul(made(g), made(h)), integer(x), integer(y)), new(big.Int).Mul(a, b))
		}
	}
}
