package dyad

import (
	"math/big"
	"testing"

	"hairline/api"
)

func TestC2Add(t *testing.T) {
	wantDyad(t, "1/2 and 1/2", Add(small(1, -1), small(1, -1)), 1, 0)
	wantDyad(t, "3/4 and -3/4", Add(small(3, -2), small(-6, -3)), 0, 0)
	wantDyad(t, "3/4 and -1", Add(small(3, -2), small(-1, 0)), -1, -2)
	wantDyad(t, "2^4000 and 2^4000", Add(small(1, 4000), small(1, 4000)), 1, 4001)
	wantDyad(t, "2^4001 as 2 times 2^4000, and itself", Add(small(2, 4000), small(2, 4000)), 1, 4002)
	wantDyad(t, "2^4001, which counts as 0, and 5", Add(small(1, 4001), small(5, 0)), 5, 0)
	wantDyad(t, "2^-4000 and 2^-4001, which counts as 0", Add(small(1, -4000), small(1, -4001)), 1, -4000)
	wantDyad(t, "2^-4000 and -0", Add(small(1, -4000), api.Dyad{M: api.Int{Neg: true}, E: 4000}), 1, -4000)
	pairs(func(a, b api.Dyad) {
		sum := new(big.Int).Add(argValue(a), argValue(b))
		wantValue(t, "Add", Add(a, b), shifted(sum, argBias))
	})
}

func TestC2Sub(t *testing.T) {
	wantDyad(t, "1/2 - 1/2", Sub(small(1, -1), small(2, -2)), 0, 0)
	wantDyad(t, "1/2 - 1", Sub(small(1, -1), small(1, 0)), -1, -1)
	wantDyad(t, "1/2 - -1/2", Sub(small(1, -1), small(-1, -1)), 1, 0)
	wantDyad(t, "2^4000 - 2 times 2^4000", Sub(small(1, 4000), small(2, 4000)), -1, 4000)
	wantDyad(t, "0 - 2 times 2^4000", Sub(small(0, 7), small(2, 4000)), -1, 4001)
	wantDyad(t, "5 - 2^4001, which counts as 0", Sub(small(5, 0), small(1, 4001)), 5, 0)
	pairs(func(a, b api.Dyad) {
		difference := new(big.Int).Sub(argValue(a), argValue(b))
		wantValue(t, "Sub", Sub(a, b), shifted(difference, argBias))
	})
}

func TestC2Mul(t *testing.T) {
	wantDyad(t, "3/4 and -4", Mul(small(3, -2), small(-1, 2)), -3, 0)
	wantDyad(t, "-6 and -10", Mul(small(-6, 0), small(-10, 0)), 15, 2)
	wantDyad(t, "2^4000 and 2^4000", Mul(small(1, 4000), small(1, 4000)), 1, 8000)
	wantDyad(t, "2^-4000 and -2^-4000", Mul(small(1, -4000), small(-1, -4000)), -1, -8000)
	wantDyad(t, "2^4000 and 2^-4000", Mul(small(1, 4000), small(1, -4000)), 1, 0)
	wantDyad(t, "5 and 2^4001, which counts as 0", Mul(small(5, 0), small(1, 4001)), 0, 0)
	wantDyad(t, "2^-4001, which counts as 0, and 2^4000", Mul(small(1, -4001), small(1, 4000)), 0, 0)
	wantDyad(t, "-3 and 0", Mul(small(-3, 0), small(0, 5)), 0, 0)
	pairs(func(a, b api.Dyad) {
		wantValue(t, "Mul", Mul(a, b), new(big.Int).Mul(argValue(a), argValue(b)))
	})
}

func TestC2Neg(t *testing.T) {
	wantDyad(t, "-(12 times 2^-1)", Neg(small(12, -1)), -3, 1)
	wantDyad(t, "-(-3/4)", Neg(small(-3, -2)), 3, -2)
	wantDyad(t, "-(8 times 2^4000)", Neg(small(8, 4000)), -1, 4003)
	for _, d := range zeroForms() {
		wantDyad(t, "Neg of 0", Neg(d), 0, 0)
	}
	for _, d := range samples() {
		negative := new(big.Int).Neg(argValue(d))
		wantValue(t, "Neg", Neg(d), shifted(negative, argBias))
	}
}

func TestC2Shift(t *testing.T) {
	for _, c := range []struct {
		d     api.Dyad
		n     int
		m     int64
		wantE int
	}{
		{small(3, -2), 2, 3, 0}, {small(3, 0), -5, 3, -5}, {small(-12, 0), 0, -3, 2},
		{small(1, 0), 4000, 1, 4000}, {small(1, 0), 4001, 1, 4000}, {small(1, 0), greatest, 1, 4000}, {small(1, 0), 3999, 1, 3999},
		{small(1, 0), -4000, 1, -4000}, {small(1, 0), -4001, 1, -4000}, {small(1, 0), least, 1, -4000}, {small(1, 0), -3999, 1, -3999},
		{small(1, 4000), greatest, 1, 8000}, {small(-1, -4000), least, -1, -8000}, {small(4, 4000), 4000, 1, 8002},
		{small(1, 4001), -1, 0, 0}, {small(1, -4001), 1, 0, 0}, {small(0, 9), 9, 0, 0}, {small(8, -4001), 4000, 0, 0},
	} {
		wantDyad(t, "Shift", Shift(c.d, c.n), c.m, c.wantE)
	}
	for _, d := range samples() {
		for _, n := range edgeE() {
			by := min(max(n, -4000), 4000)
			wantValue(t, "Shift", Shift(d, n), shifted(argValue(d), argBias+by))
		}
	}
}
