package matrix

import (
	"math/big"
	"slices"
	"testing"

	"hairline/api"
)

func wantSylvester(t *testing.T, p, q []*big.Int, want table) {
	t.Helper()
	others := polyForms(q)
	for _, form := range polyForms(p) {
		for _, other := range others {
			got, code := Sylvester(form, other)
			if code != api.OK {
				t.Fatalf("Sylvester of %d and %d: error %d", p, q, code)
			}
			wantTable(t, "Sylvester", got, want)
		}
	}
}

func wantResultant(t *testing.T, p, q []*big.Int, want *big.Int) {
	t.Helper()
	others := polyForms(q)
	for _, form := range polyForms(p) {
		for _, other := range others {
			if got := Resultant(form, other); value(got).Cmp(want) != 0 {
				t.Fatalf("Resultant of %d and %d: %d, want %d", p, q, value(got), want)
			}
			wantNormal(t, "Resultant", Resultant(form, other))
		}
	}
}

// nothing are ways to write the polynomial 0.
func nothing() []api.Poly {
	return append(polyForms(nil), polyForms(wholes(0))...)
}

func TestK4Sylvester(t *testing.T) {
	for _, c := range []struct {
		p, q []*big.Int
		want table
	}{
		{wholes(1, 2), wholes(3, 0, 1), rowsOf(3, 2, 1, 0, 0, 2, 1, 1, 0, 3)},
		{wholes(3, 0, 1), wholes(1, 2), rowsOf(3, 1, 0, 3, 2, 1, 0, 0, 2, 1)}, // the other order
		{wholes(1, 2), wholes(3, 4), rowsOf(2, 2, 1, 4, 3)},
		{wholes(1, 2, 3), wholes(4, 5, 6), rowsOf(4, 3, 2, 1, 0, 0, 3, 2, 1, 6, 5, 4, 0, 0, 6, 5, 4)},
		{wholes(7), wholes(3, 4), rowsOf(1, 7)}, {wholes(3, 4), wholes(7), rowsOf(1, 7)}, // one constant
		{wholes(-7), wholes(1, 2, 3), rowsOf(2, -7, 0, 0, -7)}, {wholes(1, 2, 3), wholes(-7), rowsOf(2, -7, 0, 0, -7)},
		{wholes(0, 5), wholes(0, 0, 0, 2), rowsOf(4, 5, 0, 0, 0, 0, 5, 0, 0, 0, 0, 5, 0, 2, 0, 0, 0)},
		{wholes(1, 2, 3, 4), wholes(5, 6), rowsOf(4, 4, 3, 2, 1, 6, 5, 0, 0, 0, 6, 5, 0, 0, 0, 6, 5)}, // degrees that differ
		{[]*big.Int{shifted(1, 64), shifted(-3, 200)}, wholes(0, 1), table{{shifted(-3, 200), shifted(1, 64)}, wholes(1, 0)}},
	} {
		wantSylvester(t, c.p, c.q, c.want)
	}
}

func TestK4SylvesterErrors(t *testing.T) {
	for _, zero := range nothing() {
		for _, p := range append(nothing(), integers(wholes(5)), integers(wholes(0, 1)), integers(wholes(1, 2, 3, 0))) {
			got, code := Sylvester(zero, p)
			wantNoTable(t, "Sylvester of 0", got, code, api.ErrArg)
			got, code = Sylvester(p, zero)
			wantNoTable(t, "Sylvester with 0", got, code, api.ErrArg)
		}
	}
	for _, p := range polyForms(wholes(5)) {
		for _, q := range polyForms(wholes(-1)) {
			got, code := Sylvester(p, q)
			wantNoTable(t, "Sylvester of two constants", got, code, api.ErrArg)
		}
	}
}

func TestK4Resultant(t *testing.T) {
	for _, c := range []struct {
		p, q []*big.Int
		want int64
	}{
		{wholes(1, 2), wholes(3, 0, 1), 13}, {wholes(3, 0, 1), wholes(1, 2), 13},
		{wholes(1, 2), wholes(3, 4), 2}, {wholes(3, 4), wholes(1, 2), -2}, // both degrees odd
		{wholes(5), wholes(-7), 1}, {wholes(0x7000), wholes(1), 1}, // two constants
		{wholes(-3), wholes(1, 2), -3}, {wholes(1, 2), wholes(-3), -3}, {wholes(-3), wholes(1, 2, 3, 4), -27}, {wholes(1, 2, 3, 4), wholes(-3), -27}, // one
		{wholes(-3), wholes(1, 2, 3), 9}, {wholes(1, 2, 3), wholes(-3), 9},
		{wholes(-1, 0, 1), wholes(-1, 1), 0}, {wholes(-1, 1), wholes(-1, 0, 1), 0}, // a common root
		{wholes(0, 1), wholes(0, 0, 1), 0}, {wholes(1, 0, 1), wholes(2, 0, 2), 0}, // 0, and none that is real
		{wholes(1, 2, 1), wholes(1, 2, 1), 0}, {wholes(-2, 4), wholes(3, -6), 0},
		{wholes(1, 0, 1), wholes(-1, 0, 1), 4}, {wholes(0, 1), wholes(5, 0, 0, 2), 5}, {wholes(5, 0, 0, 2), wholes(0, 1), -5},
		{wholes(-1, 1), wholes(-2, 1), -1}, {wholes(-2, 1), wholes(-1, 1), 1},
		{wholes(-1, 0, 0, 0, 1), wholes(1, 0, 0, 0, 1), 16}, // the first rest is a constant
		{wholes(-1, 0, 0, 1), wholes(1, 0, 0, 1), 8},        // the same, with odd degrees
		{wholes(0, 0, 0, 0, 0, 1), wholes(2, 0, 1), 32},
	} {
		wantResultant(t, c.p, c.q, whole(c.want))
	}
	for _, zero := range nothing() {
		for _, p := range append(nothing(), integers(wholes(5)), integers(wholes(0, 1)), integers(wholes(1, 2, 3, 0))) {
			wantInteger(t, "Resultant of 0", Resultant(zero, p), whole(0))
			wantInteger(t, "Resultant with 0", Resultant(p, zero), whole(0))
		}
	}
}

// samplePolys are all polynomials of a degree up to 2 with coefficients from -1 to 1,
// and mixed ones.
func samplePolys() [][]*big.Int {
	var out [][]*big.Int
	l := []int64{-1, -1, -1}
	for more := true; more; more = advance(l, -1, 1) {
		out = append(out, wholes(l...))
	}
	s := source(2463534242)
	for n := 1; n <= 6; n++ {
		out = append(out, s.list(n, 4), s.list(n, 70), s.list(n, 150))
	}
	return out
}

func TestK4OfPairs(t *testing.T) {
	for _, p := range samplePolys() {
		for _, q := range samplePolys() {
			wantResultant(t, p, q, resultant(p, q))
			if degree(p) < 0 || degree(q) < 0 || degree(p)+degree(q) == 0 {
				continue
			}
			wantSylvester(t, p, q, sylvester(p, q))
		}
	}
}

// Resultant is Det of Sylvester, whatever the degrees are by which the rests fall.
func TestK4ResultantIsDet(t *testing.T) {
	s := source(521288629)
	for n := range 600 {
		p, q := wholes(make([]int64, 12)...), wholes(make([]int64, 12)...)
		for range 1 + n%5 {
			p[s.below(12)], q[s.below(1+n%12)] = s.number(20), s.number(20)
		}
		form, other := api.Poly(integers(p)), api.Poly(integers(q))
		matrix, code := Sylvester(form, other)
		if code != api.OK {
			continue
		}
		want, _ := Det(matrix)
		wantInteger(t, "Resultant", Resultant(form, other), value(want))
		back, _ := Sylvester(other, form)
		want, _ = Det(back)
		wantInteger(t, "Resultant, the other order", Resultant(other, form), value(want))
	}
}

// Here the rests are chosen first: their degrees fall by each number from 1 to 3, the
// last one being a constant or not.
func TestK4ResultantOfChosenRests(t *testing.T) {
	s := source(17)
	for n := range 81 {
		for last := range 3 {
			p, q := s.list(last+1+n%3, 6), s.list(last+1, 6)
			p[len(p)-1], q[last] = whole(2), whole(-3)
			for m := n; m > 0; m /= 3 {
				next := polyProduct(p, append(s.list(1+m%3, 6), whole(5)))
				for i, x := range q {
					next[i] = new(big.Int).Add(next[i], times(x, whole(7)))
				}
				p, q = next, p
			}
			wantResultant(t, p, q, resultant(p, q))
			wantResultant(t, q, p, resultant(q, p))
		}
	}
}

// With roots r of p and s of q, it is the product of all r - s, times the leading
// coefficients to the powers of the other degree.
func TestK4ResultantByRoots(t *testing.T) {
	s := source(362436069)
	for n := range 300 {
		c, d := int64(s.below(9)+1), -int64(s.below(9)+1)
		var r, u []int64
		for range n % 6 {
			r = append(r, int64(s.below(30)))
		}
		for range n / 6 % 6 {
			u = append(u, -int64(s.below(30)))
		}
		want := times(raised(whole(c), len(u)), raised(whole(d), len(r)))
		for _, x := range r {
			for _, y := range u {
				want = times(want, whole(x-y))
			}
		}
		wantResultant(t, withRoots(c, r...), withRoots(d, u...), want)
		if len(r) > 0 && len(u) > 0 {
			u[0] = r[len(r)-1]
			wantResultant(t, withRoots(c, r...), withRoots(d, u...), whole(0))
		}
	}
}

// Degrees and numbers at and above the program's limits.
func TestK4LongLists(t *testing.T) {
	s := source(88172645463325252)
	p, q := s.list(33, 20), s.list(31, 20)
	p[32], q[30] = whole(-3), shifted(5, 40)
	wantSylvester(t, p, q, sylvester(p, q))
	wantInteger(t, "degrees 32 and 30", Resultant(integers(p), integers(q)), determinant(sylvester(p, q)))
	common := wholes(2, 0, -7, 1)
	wantInteger(t, "with a common root", Resultant(integers(polyProduct(p, common)), integers(polyProduct(q, common))), whole(0))
	p, q = []*big.Int{shifted(1, 4096), shifted(-3, 4000)}, []*big.Int{shifted(7, 4000), whole(1)}
	wantResultant(t, p, q, determinant(sylvester(p, q)))
}

func TestK4FarDegrees(t *testing.T) {
	far := append(wholes(make([]int64, 30_000)...), whole(1))
	far[1], far[0] = whole(5), whole(-3)
	wantInteger(t, "and 1", Resultant(integers(far), integers(wholes(1))), whole(1))
	wantInteger(t, "-1 and", Resultant(integers(wholes(-1)), integers(far[1:])), whole(-1))
	wantInteger(t, "2 and", Resultant(integers(wholes(2)), integers(far)), shifted(1, 30_000))
	wantInteger(t, "and x", Resultant(integers(far), integers(wholes(0, 1))), whole(-3))
	wantInteger(t, "x + 1 and", Resultant(integers(wholes(1, 1)), integers(far)), whole(-7))
	wantInteger(t, "x^20000 and", Resultant(integers(append(wholes(make([]int64, 20_000)...), whole(1))), integers(wholes(1, 1))), whole(1))
	one := append(integers(wholes(1, 2)), make([]api.Int, 500_000)...)
	other := append(integers(wholes(3, 0, 1)), make([]api.Int, 500_000)...)
	wantInteger(t, "zeros at the end", Resultant(one, other), whole(13))
	got, _ := Sylvester(one, other)
	wantTable(t, "zeros at the end", got, rowsOf(3, 2, 1, 0, 0, 2, 1, 1, 0, 3))
	if !slices.EqualFunc(got, of(3, 2, 1, 0, 0, 2, 1, 1, 0, 3), func(a, b []api.Int) bool { return len(a) == len(b) }) {
		t.Error("rows of a wrong length")
	}
}
