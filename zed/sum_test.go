package zed

import (
	"math/big"
	"testing"

	"hairline/api"
)

func TestB2Add(t *testing.T) {
	wantSmall(t, "5 and -7", Add(small(5), small(-7)), -2)
	wantSmall(t, "-5 and 5", Add(small(-5), api.Int{Mag: []uint64{5, 0}}), 0)
	wantSmall(t, "-0 and -0", Add(api.Int{Neg: true}, api.Int{Neg: true, Mag: []uint64{0}}), 0)
	wantSmall(t, "-0 and 3", Add(api.Int{Neg: true}, small(3)), 3)
	wantSmall(t, "0 and -3", Add(api.Int{}, small(-3)), -3)
	pairs(func(a, b api.Int) {
		wantValue(t, "Add", Add(a, b), new(big.Int).Add(value(a), value(b)))
	})
}

func TestB2Sub(t *testing.T) {
	wantSmall(t, "5 - 7", Sub(small(5), small(7)), -2)
	wantSmall(t, "-5 - -5", Sub(small(-5), small(-5)), 0)
	wantSmall(t, "0 - -0", Sub(api.Int{}, api.Int{Neg: true, Mag: []uint64{0}}), 0)
	pairs(func(a, b api.Int) {
		wantValue(t, "Sub", Sub(a, b), new(big.Int).Sub(value(a), value(b)))
	})
}

func TestB2Mul(t *testing.T) {
	wantSmall(t, "-3 and 4", Mul(small(-3), small(4)), -12)
	wantSmall(t, "-3 and -4", Mul(small(-3), small(-4)), 12)
	wantSmall(t, "-3 and 0", Mul(small(-3), api.Int{Mag: []uint64{0, 0}}), 0)
	wantSmall(t, "-0 and 3", Mul(api.Int{Neg: true}, small(3)), 0)
	pairs(func(a, b api.Int) {
		wantValue(t, "Mul", Mul(a, b), new(big.Int).Mul(value(a), value(b)))
	})
}

func TestB2NegAndAbs(t *testing.T) {
	for _, zero := range zeroForms() {
		wantSmall(t, "Neg of 0", Neg(zero), 0)
		wantSmall(t, "Abs of 0", Abs(zero), 0)
	}
	for _, a := range samples() {
		wantValue(t, "Neg", Neg(a), new(big.Int).Neg(value(a)))
		wantValue(t, "Abs", Abs(a), new(big.Int).Abs(value(a)))
	}
}
