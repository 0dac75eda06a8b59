package polyz

import (
	"testing"

	"hairline/api"
)

func wantQuotient(t *testing.T, p, q, want list) {
	t.Helper()
	for i, form := range forms(p) {
		got, code := Divide(form, forms(q)[3-i])
		if code != api.OK {
			t.Fatalf("Divide of %d by %d: error %d", p, q, code)
		}
		wantPoly(t, "Divide", got, want)
	}
}

func wantNoQuotient(t *testing.T, p, q list) {
	t.Helper()
	for i, form := range forms(p) {
		got, code := Divide(form, forms(q)[3-i])
		wantNothing(t, "Divide", got, code, api.ErrDivide)
	}
}

func TestJ3Divide(t *testing.T) {
	wantQuotient(t, small(-1, 0, 1), small(1, 1), small(-1, 1))
	wantQuotient(t, small(0, 0, 6), small(-3), small(0, 0, -2))
	wantQuotient(t, small(6, -4), small(-3, 2), small(-2))
	wantQuotient(t, small(5), small(-5), small(-1))
	wantQuotient(t, small(-2, 0, 0, 2), small(2, 2, 2), small(-1, 1)) // x^3 - 1
	wantQuotient(t, small(-1, 0, 0, 0, 0, 0, 1), small(1, 0, -1), small(-1, 0, -1, 0, -1))
	wantQuotient(t, nil, small(3), nil)
	wantQuotient(t, nil, small(3, -4, 5), nil)
}

func TestJ3DivideErrors(t *testing.T) {
	for _, zero := range zeroForms() {
		for _, p := range append(zeroForms(), of(1), of(2, 3), of(0, 0, -5)) {
			got, code := Divide(p, zero)
			wantNothing(t, "by 0", got, code, api.ErrZero)
		}
	}
	for _, c := range []struct{ p, q list }{
		{small(0, 0, 1), small(1, 1)},            // only the last rest is not 0
		{small(1, 0, 1), small(0, 1)},            // and it is that of the power 0
		{small(0, 1, 1), small(0, 0, 1)},         // and it is that of the power 1
		{small(-2, 0, 1), small(-1, 0, 1)},       // a constant rest, q of the same degree
		{small(1, 1), small(2, 2)},               // the leading coefficient does not divide
		{small(2, 1), small(2)},                  // the same with a constant
		{small(1, 2), small(2)},                  // the first one divides, the second one does not
		{small(0, 0, 2, 4), small(0, 0, 4)},      // the same, with the rest 0 over rational numbers
		{small(1, 2, 1), small(2, 2)},            // q divides p over rational numbers
		{small(7), small(2)},                     // constants
		{small(3), small(1, 1)},                  // p of a degree below that of q
		{small(0, -1), small(0, 0, 1)},           // the same
		{small(3, 0, -5), small(-3)},             // negative leading coefficients
		{small(1, 0, 0, 0, 0, -4), small(1, -2)}, // 4 is divided, but the next factor is not whole
	} {
		wantNoQuotient(t, c.p, c.q)
	}
}

func TestJ3DivideAgainstRationalNumbers(t *testing.T) {
	pairs(func(p, q list) {
		if len(q) == 0 {
			return
		}
		if want, ok := divides(q, p); ok {
			wantQuotient(t, p, q, want)
		} else {
			wantNoQuotient(t, p, q)
		}
	})
}

// A product is divided by its factors; its neighbours are so only by few of them.
func TestJ3DivideProducts(t *testing.T) {
	pairs(func(p, q list) {
		if len(q) == 0 {
			return
		}
		multiple := product(p, q)
		got, code := Divide(made(multiple), made(q))
		wantPoly(t, "a product by its factor", got, p)
		if code != api.OK {
			t.Fatalf("Divide of %d by %d: error %d", multiple, q, code)
		}
		for n := range len(multiple) {
			beside := plus(multiple, monomial(1, n))
			_, ok := divides(q, beside)
			if _, code := Divide(made(beside), made(q)); (code == api.OK) != ok {
				t.Fatalf("Divide of %d by %d: error %d", beside, q, code)
			}
		}
	})
}

// wantRest holds the results of Rest against the chapter's words: these leave one t
// and one r alone.
func wantRest(t *testing.T, p, q list) {
	t.Helper()
	d := max(0, len(p)-len(q)+1)
	l := raised(q[len(q)-1], d)
	factor, rest := quotient(scaled(p, l), q)
	wantT, ok := factor.whole()
	wantR, okR := rest.whole()
	if !ok || !okR {
		t.Fatalf("L of %d and %d is wrong", p, q)
	}
	for i, form := range forms(p) {
		gotT, gotR, code := Rest(form, forms(q)[3-i])
		if code != api.OK {
			t.Fatalf("Rest of %d and %d: error %d", p, q, code)
		}
		wantPoly(t, "t", gotT, wantT)
		wantPoly(t, "r", gotR, wantR)
		if len(gotR) >= len(q) {
			t.Fatalf("Rest of %d and %d: the rest %v is of a degree too high", p, q, gotR)
		}
		if !alike(scaled(p, l), plus(product(q, read(gotT)), read(gotR))) {
			t.Fatalf("Rest of %d and %d: not L p = q t + r: %v, %v", p, q, gotT, gotR)
		}
	}
}

func TestJ3Rest(t *testing.T) {
	for _, c := range []struct{ p, q, t, r list }{
		{small(0, 0, 1), small(1, 2), small(-1, 2), small(1)},
		{small(0, 0, 1), small(1, 1), small(-1, 1), small(1)},
		{small(0, 0, 1), small(1, -2), small(-1, -2), small(1)}, // 4 x^2 = (1 - 2x)(-1 - 2x) + 1
		{small(0, 0, 0, 1), small(1, -2), small(1, 2, 4), small(-1)},
		{small(5, 7), small(3), small(15, 21), nil},           // 9 p = 3 t
		{small(5, 7), small(-1), small(5, 7).opposite(), nil}, // p = (-1) (-p)
		{small(5), small(-4), small(5), nil},                  // -4 times 5
		{small(0, 0, 0, 0, 5), small(2), small(0, 0, 0, 0, 80), nil},
		{small(5, 7), small(1, 1, 9), nil, small(5, 7)}, // L is 1
		{small(5), small(0, 2), nil, small(5)},          // the same
		{nil, small(0, 2), nil, nil},
		{nil, small(2), nil, nil},
		{small(1, 2, 1), small(1, 1), small(1, 1), nil},
		{small(1, 2, 4), small(3, 3, 3), small(4), small(-9, -6)},             // of the same degree: L is 3
		{small(0, 3, 0, 0, 2), small(0, 0, 3), small(0, 0, 18), small(0, 81)}, // steps without a factor: L is 27
	} {
		for i, form := range forms(c.p) {
			gotT, gotR, code := Rest(form, forms(c.q)[3-i])
			wantPoly(t, "t", gotT, c.t)
			wantPoly(t, "r", gotR, c.r)
			if code != api.OK {
				t.Fatalf("Rest of %d and %d: error %d", c.p, c.q, code)
			}
		}
		wantRest(t, c.p, c.q)
	}
}

func (p list) opposite() list {
	return scaled(p, whole(-1))
}

func TestJ3RestErrors(t *testing.T) {
	for _, zero := range zeroForms() {
		for _, p := range append(zeroForms(), of(1), of(2, 3), of(0, 0, -5)) {
			quotient, rest, code := Rest(p, zero)
			wantNothing(t, "t", quotient, code, api.ErrZero)
			wantNothing(t, "r", rest, code, api.ErrZero)
		}
	}
}

func TestJ3RestOfPairs(t *testing.T) {
	pairs(func(p, q list) {
		if len(q) > 0 {
			wantRest(t, p, q)
		}
	})
}

// Degrees far apart, and leading coefficients of both signs.
func TestJ3RestOfLongLists(t *testing.T) {
	s := source(88172645463325252)
	for _, degrees := range [][2]int{{60, 1}, {60, 0}, {45, 20}, {40, 40}, {3, 50}, {30, 29}} {
		p, q := s.list(degrees[0], 40), s.list(degrees[1], 40)
		wantRest(t, p, q)
		wantRest(t, p, q.opposite())
		wantRest(t, product(p, q), q)
		wantRest(t, plus(product(p, q), small(1)), q)
	}
}
