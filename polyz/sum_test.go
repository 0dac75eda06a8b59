package polyz

import (
	"math/big"
	"testing"

	"hairline/api"
)

func TestJ1Add(t *testing.T) {
	wantPoly(t, "the highest power cancels", Add(of(1, 2), of(0, -2)), small(1))
	wantPoly(t, "the two highest cancel", Add(of(1, 2, -3, 4), of(5, 5, 3, -4)), small(6, 7))
	wantPoly(t, "all cancel", Add(of(1, 2), of(-1, -2)), nil)
	wantPoly(t, "a power below cancels", Add(of(1, 2, 3), of(1, -2)), small(2, 0, 3))
	wantPoly(t, "the longer one second", Add(of(1), of(1, 0, 0, -9)), small(2, 0, 0, -9))
	for _, zero := range zeroForms() {
		wantPoly(t, "0 + p", Add(zero, of(0, 3, 0)), small(0, 3))
		wantPoly(t, "p + 0", Add(of(0, 3, 0), zero), small(0, 3))
		wantPoly(t, "0 + 0", Add(zero, zero), nil)
	}
	pairs(func(p, q list) {
		for i, form := range forms(p) {
			wantPoly(t, "Add", Add(form, forms(q)[3-i]), plus(p, q))
		}
	})
}

func TestJ1Sub(t *testing.T) {
	wantPoly(t, "a constant", Sub(of(1, 2), of(1)), small(0, 2))
	wantPoly(t, "the highest power cancels", Sub(of(1, 2), of(0, 2)), small(1))
	wantPoly(t, "the two highest cancel", Sub(of(1, 2, -3, 4), of(5, 5, -3, 4)), small(-4, -3))
	wantPoly(t, "all cancel", Sub(of(1, 2), of(1, 2, 0)), nil)
	for _, zero := range zeroForms() {
		wantPoly(t, "0 - p", Sub(zero, of(0, 3, 0)), small(0, -3))
		wantPoly(t, "p - 0", Sub(of(0, 3, 0), zero), small(0, 3))
		wantPoly(t, "0 - 0", Sub(zero, zero), nil)
	}
	pairs(func(p, q list) {
		for i, form := range forms(p) {
			wantPoly(t, "Sub", Sub(form, forms(q)[3-i]), minus(p, q))
		}
	})
}

func TestJ1Mul(t *testing.T) {
	wantPoly(t, "the example", Mul(of(1, 1), of(-1, 1)), small(-1, 0, 1))
	wantPoly(t, "by a constant", Mul(of(-3), of(1, 0, 5)), small(-3, 0, -15))
	wantPoly(t, "of constants", Mul(of(-3), of(-4)), small(12))
	wantPoly(t, "by a power", Mul(made(monomial(2, 40)), of(1, 2)), plus(monomial(2, 40), monomial(4, 41)))
	for _, zero := range zeroForms() {
		wantPoly(t, "0 p", Mul(zero, of(1, 2)), nil)
		wantPoly(t, "p 0", Mul(of(1, 2), zero), nil)
		wantPoly(t, "0 0", Mul(zero, zero), nil)
	}
	pairs(func(p, q list) {
		for i, form := range forms(p) {
			wantPoly(t, "Mul", Mul(form, forms(q)[3-i]), product(p, q))
		}
	})
}

func TestJ1MulOfLongLists(t *testing.T) {
	s := source(521288629)
	p, q := s.list(150, 100), s.list(97, 64)
	wantPoly(t, "Mul", Mul(made(p), made(q)), product(p, q))
}

func TestJ1Times(t *testing.T) {
	wantPoly(t, "3", Times(of(1, 2), integer(whole(3))), small(3, 6))
	wantPoly(t, "-1", Times(of(0, 2, -5, 0), integer(whole(-1))), small(0, -2, 5))
	for _, zero := range append(zeroForms(), of(1, 2, 3)) {
		for _, c := range []api.Int{{}, {Neg: true}, {Neg: true, Mag: []uint64{0, 0}}} {
			wantPoly(t, "by 0", Times(zero, c), nil)
		}
	}
	for _, zero := range zeroForms() {
		wantPoly(t, "0 by 5", Times(zero, integer(whole(5))), nil)
	}
	for _, p := range lists() {
		for _, c := range points() {
			for i, form := range forms(p) {
				wantPoly(t, "Times", Times(form, integerForms(c)[i%2]), scaled(p, c))
			}
		}
	}
}

// Any number of polynomials can be added.
func TestJ1Sum(t *testing.T) {
	wantPoly(t, "nothing", sum(), nil)
	want := list{}
	var terms []api.Poly
	for i, p := range mixedLists() {
		terms = append(terms, forms(p)[i%4])
		want = plus(want, p)
		wantPoly(t, "sum", sum(terms...), want)
	}
	last := made(scaled(want, whole(-1)))
	wantPoly(t, "all cancel at last", sum(append(terms, last)...), nil)
	next := made(plus(scaled(want, whole(-1)), list{new(big.Int).Lsh(whole(1), 64)}))
	wantPoly(t, "all but one cancel", sum(append(terms, next)...), list{new(big.Int).Lsh(whole(1), 64)})
}
