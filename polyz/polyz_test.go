package polyz

import (
	"math/big"
	"testing"

	"hairline/api"
)

// zeroForms are ways to write the polynomial 0.
func zeroForms() []api.Poly {
	zero := api.Int{}
	odd := api.Int{Neg: true, Mag: []uint64{0, 0}}
	return []api.Poly{nil, {}, {zero}, {odd}, {zero, zero, zero}, {zero, odd, {Neg: true}, {Mag: []uint64{0}}}, make(api.Poly, 1000)}
}

func TestJ1Norm(t *testing.T) {
	wantPoly(t, "zeros at the end", Norm(of(1, 0, 2, 0, 0)), small(1, 0, 2))
	wantPoly(t, "a 0 below stays", Norm(api.Poly{{}, {Neg: true, Mag: []uint64{0}}, {Neg: true, Mag: []uint64{5, 0}}}), small(0, 0, -5))
	wantPoly(t, "normal already", Norm(of(-7)), small(-7))
	for _, zero := range zeroForms() {
		wantPoly(t, "0", Norm(zero), nil)
	}
	for _, p := range lists() {
		for _, form := range forms(p) {
			wantPoly(t, "Norm", Norm(form), p)
		}
	}
}

func TestJ1Same(t *testing.T) {
	for _, p := range zeroForms() {
		for _, q := range zeroForms() {
			wantSame(t, p, q, true)
		}
		wantSame(t, p, of(1), false)
		wantSame(t, of(0, 1), p, false)
	}
	for _, p := range lists() {
		for _, a := range forms(p) {
			for _, b := range forms(p) {
				wantSame(t, a, b, true)
			}
			for i := range p {
				changed := append(list{}, p...)
				changed[i] = new(big.Int).Neg(p[i])
				wantSame(t, a, made(changed), p[i].Sign() == 0)
				changed[i] = new(big.Int).Add(p[i], new(big.Int).Lsh(whole(1), 64))
				wantSame(t, made(changed), a, false)
			}
			wantSame(t, a, append(made(p), integer(whole(1))), false)
			wantSame(t, append(made(p), api.Int{}, integer(whole(-1))), a, false)
		}
	}
	pairs(func(p, q list) { wantSame(t, made(p), made(q), alike(p, q)) })
}

func wantSame(t *testing.T, p, q api.Poly, want bool) {
	t.Helper()
	if Same(p, q) != want {
		t.Fatalf("Same of %v and %v is not %v", p, q, want)
	}
}

func TestJ1Degree(t *testing.T) {
	for _, zero := range zeroForms() {
		if got := Degree(zero); got != -1 {
			t.Errorf("Degree of 0 as %v: %d", zero, got)
		}
	}
	for _, p := range lists() {
		for _, form := range forms(p) {
			if got := Degree(form); got != len(p)-1 {
				t.Errorf("Degree of %v: %d", form, got)
			}
		}
	}
	if got := Degree(append(made(monomial(-1, 3000)), make(api.Poly, 2000)...)); got != 3000 {
		t.Errorf("Degree of a long list: %d", got)
	}
}
