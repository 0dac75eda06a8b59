package polyz

import (
	"math/big"
	"testing"

	"hairline/api"
)

// integerZeros are ways to write the integer 0.
func integerZeros() []api.Int {
	return []api.Int{{}, {Neg: true}, {Mag: []uint64{0}}, {Neg: true, Mag: []uint64{0, 0}}}
}

func TestJ2Value(t *testing.T) {
	wantInteger(t, "1, 2, 3 at 10", Value(of(1, 2, 3), integer(whole(10))), whole(321))
	wantInteger(t, "1, 2, 3 at -10", Value(of(1, 2, 3), integer(whole(-10))), whole(281))
	wantInteger(t, "0, 0, 0, 2 at -3", Value(of(0, 0, 0, 2), integer(whole(-3))), whole(-54))
	wantInteger(t, "a root", Value(of(-6, 1, 1), integer(whole(-3))), whole(0))
	for _, x := range integerZeros() {
		wantInteger(t, "at 0", Value(of(-5, 7, 9), x), whole(-5))
		wantInteger(t, "at 0, where it is 0", Value(api.Poly{{Neg: true}, integer(whole(7))}, x), whole(0))
	}
	for _, x := range points() {
		for _, zero := range zeroForms() {
			wantInteger(t, "of 0", Value(zero, integer(x)), whole(0))
		}
		for _, p := range lists() {
			for i, form := range forms(p) {
				wantInteger(t, "Value", Value(form, integerForms(x)[i%2]), valueAt(p, x))
			}
		}
	}
}

func TestJ2Shift(t *testing.T) {
	wantPoly(t, "the example", Shift(of(0, 0, 1), integer(whole(2))), small(4, 4, 1))
	wantPoly(t, "by -1", Shift(of(1, 2, 1), integer(whole(-1))), small(0, 0, 1))
	wantPoly(t, "of a constant", Shift(of(-7), integer(whole(100))), small(-7))
	for _, zero := range integerZeros() {
		for _, p := range lists() {
			wantPoly(t, "by 0", Shift(forms(p)[3], zero), p)
		}
	}
	for _, a := range points() {
		for _, zero := range zeroForms() {
			wantPoly(t, "of 0", Shift(zero, integer(a)), nil)
		}
		for _, p := range lists() {
			for i, form := range forms(p) {
				wantPoly(t, "Shift", Shift(form, integerForms(a)[i%2]), shifted(p, a))
			}
		}
	}
}

func TestJ2ShiftThereAndBack(t *testing.T) {
	s := source(362436069)
	for degree := range 40 {
		p, a := s.list(degree, 150), s.integer(100)
		there := Shift(made(p), integer(a))
		wantPoly(t, "there", there, shifted(p, a))
		wantPoly(t, "there and back", Shift(there, integer(new(big.Int).Neg(a))), p)
	}
}

func TestJ2Stretch(t *testing.T) {
	wantPoly(t, "by -3", Stretch(of(1, 1, 1), integer(whole(-3))), small(1, -3, 9))
	wantPoly(t, "by 1", Stretch(of(0, 5, -2, 0), integer(whole(1))), small(0, 5, -2))
	wantPoly(t, "by -1", Stretch(of(4, 5, -2, 3), integer(whole(-1))), small(4, -5, -2, -3))
	for _, c := range integerZeros() {
		wantPoly(t, "by 0", Stretch(of(4, 5, -2), c), small(4))
		wantPoly(t, "by 0, where it is 0 there", Stretch(of(0, 5, -2), c), nil)
	}
	for _, c := range points() {
		for _, zero := range zeroForms() {
			wantPoly(t, "of 0", Stretch(zero, integer(c)), nil)
		}
		for _, p := range lists() {
			for i, form := range forms(p) {
				wantPoly(t, "Stretch", Stretch(form, integerForms(c)[i%2]), stretched(p, c))
			}
		}
	}
}

func TestJ2Derive(t *testing.T) {
	wantPoly(t, "5, 4, 3", Derive(of(5, 4, 3)), small(4, 6))
	wantPoly(t, "of a power", Derive(made(monomial(-2, 300))), monomial(-600, 299))
	for _, zero := range zeroForms() {
		wantPoly(t, "of 0", Derive(zero), nil)
	}
	for _, c := range []int64{-9, -1, 1, 2} {
		for _, form := range forms(small(c)) {
			wantPoly(t, "of a constant", Derive(form), nil)
		}
	}
	for _, p := range lists() {
		for _, form := range forms(p) {
			wantPoly(t, "Derive", Derive(form), derived(p))
		}
	}
}
