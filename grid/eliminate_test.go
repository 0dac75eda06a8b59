package grid

import (
	"math/big"
	"testing"

	"hairline/api"
)

// wantEliminate compares both orders: the sign differs if both degrees in y are odd.
func wantEliminate(t *testing.T, g, h sheet, want []*big.Int) {
	t.Helper()
	back := want
	if width(g)%2 == 0 && width(h)%2 == 0 && len(g) > 0 && len(h) > 0 {
		back = nil
		for _, c := range want {
			back = append(back, new(big.Int).Neg(c))
		}
	}
	others := forms(h)
	for i, form := range forms(g) {
		wantList(t, "Eliminate", Eliminate(form, others[3-i]), want)
		wantList(t, "Eliminate in the other order", Eliminate(others[3-i], form), back)
	}
}

func TestL3Eliminate(t *testing.T) {
	line, root, circle := sheetOf([]int64{0, 1}, []int64{1}), sheetOf([]int64{0, 0, 1}, []int64{-1}), sheetOf([]int64{-25, 0, 1}, nil, []int64{1})
	for _, c := range []struct {
		g, h sheet
		want []*big.Int
	}{
		{line, sheetOf([]int64{0, -1}, []int64{1}), list(0, 2)},
		{root, sheetOf([]int64{-2, 1}), list(4, -1)}, // y^2 - x, y - 2
		{root, sheetOf([]int64{0, -1}, []int64{1}), list(0, -1, 1)},
		{circle, line, list(-25, 0, 2)}, {circle, root, list(625, -50, -49, 2, 1)},
		{sheetOf([]int64{3}), sheetOf([]int64{5}), list(1)},                         // neither has y
		{monomial(3, 4, 0), sheetOf([]int64{5}, []int64{-7}), list(1)},              // nor a constant value
		{sheetOf([]int64{3}), monomial(1, 0, 4), list(81)},                          // one has
		{sheetOf([]int64{-3}), sheetOf([]int64{7, 0, 0, 5}, []int64{1}), list(-27)}, //
		{sheetOf([]int64{1}, []int64{1}), sheetOf([]int64{7, 0, 5}), list(1, 2, 1)},
		{sheetOf(nil, []int64{1}), sheetOf([]int64{1, 1}), list(0, 1)},
		{sheetOf([]int64{0, 0, 0, 1}), monomial(1, 1, 0), list(0, 0, 0, 1)},
		// The leading coefficient in y vanishes at 0; at 1; at -1, 0, 1 and 2.
		{sheetOf([]int64{1}, []int64{0, 1}), sheetOf([]int64{-2, 1}), list(-1, -2)},
		{sheetOf([]int64{1, -1}, []int64{0, 1}), sheetOf([]int64{-2, 1}), list(1, -2)},
		{sheetOf([]int64{1, 0, 0}, []int64{0, 0, 2}, []int64{0, 0, -1}, []int64{0, 0, -2}, []int64{0, 0, 1}), sheetOf([]int64{-2, 1}), list(1, 8, -4, -8, 4)},
		// Both leading coefficients vanish at 0: and so does the determinant.
		{sheetOf([]int64{1}, []int64{0, 1}), sheetOf([]int64{3}, []int64{0, 1}), list(0, 2)},
		{sheetOf([]int64{1, 1}, []int64{0, 0, 1}), sheetOf([]int64{3, -2}, []int64{0, 0, 1}), list(0, 15, 4)},
		{sheetOf([]int64{0, 0, 1}), sheetOf([]int64{0, 3}), nil}, // a common root at each x
	} {
		wantEliminate(t, c.g, c.h, c.want)
		if got := resultant(c.g, c.h); !equalList(cutList(got), c.want) {
			t.Fatalf("resultant of %d and %d: %d, want %d", c.g, c.h, got, c.want)
		}
	}
}

func TestL3EliminateOfZero(t *testing.T) {
	for _, nought := range noughts() {
		for i, g := range sheets() {
			form := forms(g)[i%4]
			wantList(t, "Eliminate of g and 0", Eliminate(form, nought), nil)
			wantList(t, "Eliminate of 0 and g", Eliminate(nought, form), nil)
		}
		for _, other := range noughts() {
			wantList(t, "Eliminate of 0 and 0", Eliminate(nought, other), nil)
		}
	}
}

// All small grids: the determinant is expanded.
func TestL3EliminateByTheChaptersWords(t *testing.T) {
	all := smallSheets()
	for _, g := range all {
		for _, h := range all {
			wantList(t, "Eliminate", Eliminate(made(g), forms(h)[3]), resultant(g, h))
		}
	}
	s := source(88172645463325252)
	for n := range 600 {
		g, h := s.sheet(s.below(3), s.below(4), 3+n%70), s.sheet(s.below(3), s.below(4), 3+n%70)
		wantEliminate(t, g, h, cutList(resultant(g, h)))
	}
}

// Greater grids.
func TestL3EliminateAtPoints(t *testing.T) {
	all := mixedSheets()
	for _, g := range all {
		for k := 0; k < len(all); k += 3 {
			wantEliminateAtPoints(t, g, all[k])
		}
	}
}

// Grids in which the degree in x hangs on the power of y.
func TestL3EliminateOfShapes(t *testing.T) {
	s := source(88172645463325252)
	for n := 1; n <= 4; n++ {
		for slope := 1; slope <= 3; slope++ {
			for m := 1; m <= 3; m++ {
				falling, steep := s.shape(slope*n, -slope, n), s.shape(slope*m+1, -slope, m)
				rising, slow := s.shape(1, slope, n), s.shape(2*m, -1, m)
				wantEliminateAtPoints(t, falling, steep)
				wantEliminateAtPoints(t, falling, rising)
				wantEliminateAtPoints(t, falling, slow)
				wantEliminateAtPoints(t, slow, rising)
			}
		}
	}
}

// shape makes a grid of the degree y in y: the coefficient of y^j has the degree
// first + slope j in x.
func (s *source) shape(first, slope, y int) sheet {
	var out sheet
	for j := range y + 1 {
		var row []*big.Int
		for range first + slope*j {
			row = append(row, s.number(50))
		}
		out = append(out, append(row, whole(int64(s.below(9)+1))))
	}
	return turned(out)
}

// wantEliminateAtPoints compares at so many points that no other polynomial of the
// same degree agrees.
func wantEliminateAtPoints(t *testing.T, g, h sheet) {
	t.Helper()
	if len(g) == 0 || len(h) == 0 {
		return
	}
	got := Eliminate(made(g), made(h))
	xG, yG := degrees(g)
	xH, yH := degrees(h)
	if len(got) > xG*yH+xH*yG+1 {
		t.Fatalf("Eliminate of %d and %d has the degree %d", g, h, len(got)-1)
	}
	p := read(got)
	wantList(t, "Eliminate", got, cutList(p))
	for n := range int64(xG*yH + xH*yG + 1) {
		x := whole(n - int64(xG*yH)/2)
		if want := resultantAt(g, h, x); polyAt(p, x).Cmp(want) != 0 {
			t.Fatalf("Eliminate of %d and %d is %d at %d, want %d", g, h, polyAt(p, x), x, want)
		}
	}
}

func TestL3EliminateOfProducts(t *testing.T) {
	s := source(521288629)
	for range 60 {
		g, h, k := s.sheet(2, 2, 70), s.sheet(2, 1, 70), s.sheet(1, 2, 70)
		want := product(sheet{read(Eliminate(made(g), made(k)))}, sheet{read(Eliminate(made(h), made(k)))})
		got := Eliminate(made(product(g, h)), made(k))
		if len(want) == 0 {
			want = sheet{nil}
		}
		wantList(t, "Eliminate of a product", got, want[0])
	}
}

// A common factor with y makes the result 0; one without y does so only where it is 0.
func TestL3EliminateWithCommonFactors(t *testing.T) {
	s := source(2463534242)
	for _, factor := range []sheet{
		sheetOf([]int64{0, 1}), sheetOf([]int64{0, 1}, []int64{1}), sheetOf([]int64{1}, []int64{0, 1}),
		sheetOf([]int64{-3, 0, 2}, []int64{5}, []int64{1, 1}), {{shifted(1, 70), shifted(1, 90)}},
	} {
		for range 10 {
			g, h := s.sheet(2, 2, 40), s.sheet(1, 2, 40)
			wantEliminate(t, product(g, factor), product(h, factor), nil)
			wantEliminate(t, product(g, factor), factor, nil)
			wantEliminate(t, factor, factor, nil)
		}
	}
	g, h := sheetOf([]int64{0, 0, 1}, []int64{-1}), sheetOf([]int64{-2, 1})
	for _, factor := range []sheet{sheetOf([]int64{-4}, []int64{1}), sheetOf([]int64{0}, []int64{1}), sheetOf([]int64{0}, []int64{-1}, nil, []int64{1}), sheetOf([]int64{6})} {
		p, q := product(g, factor), product(h, factor)
		want := product(sheetOf([]int64{4}, []int64{-1}), product(factor, product(factor, factor)))
		wantEliminate(t, p, q, turned(want)[0])
	}
}

// Where both grids are 0, the result is 0 as well.
func TestL3EliminateAtCommonZeros(t *testing.T) {
	s := source(17)
	for _, x := range []int64{0, 1, -1, 5} {
		for _, y := range []int64{0, 2, -7} {
			for range 10 {
				g, h := zeroAt(s.sheet(2, 3, 50), x, y), zeroAt(s.sheet(2, 2, 50), x, y)
				if width(g) < 2 && width(h) < 2 {
					continue
				}
				if v := polyAt(read(Eliminate(made(g), made(h))), whole(x)); v.Sign() != 0 {
					t.Fatalf("Eliminate of %d and %d is %d at %d", g, h, v, x)
				}
			}
		}
	}
}

// zeroAt takes from g its value at x, y.
func zeroAt(g sheet, x, y int64) sheet {
	return combined(g, sheet{{valueAt(g, whole(x), whole(y))}}, -1)
}

// read tells the coefficients of p.
func read(p api.Poly) []*big.Int {
	var out []*big.Int
	for _, c := range p {
		out = append(out, value(c))
	}
	return out
}
