package dyad

import (
	"math/big"
	"testing"

	"hairline/api"
)

func TestC1Norm(t *testing.T) {
	wantDyad(t, "12 times 2^-1", Norm(small(12, -1)), 3, 1)
	wantDyad(t, "-12 times 2^-1", Norm(small(-12, -1)), -3, 1)
	wantDyad(t, "an odd M", Norm(small(-7, 5)), -7, 5)
	wantDyad(t, "leading zero limbs", Norm(api.Dyad{M: api.Int{Neg: true, Mag: []uint64{6, 0, 0}}, E: 2}), -3, 3)
	wantDyad(t, "2^64 times 2^-64", Norm(api.Dyad{M: api.Int{Mag: []uint64{0, 1}}, E: -64}), 1, 0)
	for _, d := range zeroForms() {
		wantDyad(t, "Norm of 0", Norm(d), 0, 0)
	}
	for _, d := range samples() {
		wantValue(t, "Norm", Norm(d), shifted(argValue(d), argBias))
	}
}

// The E that counts is the one that is given, not that of the normal form.
func TestC1NormAtTheEnds(t *testing.T) {
	wantDyad(t, "1 times 2^4000", Norm(small(1, 4000)), 1, 4000)
	wantDyad(t, "8 times 2^4000", Norm(small(8, 4000)), 1, 4003)
	wantDyad(t, "-8 times 2^3999", Norm(small(-8, 3999)), -1, 4002)
	wantDyad(t, "1 times 2^4001", Norm(small(1, 4001)), 0, 0)
	wantDyad(t, "1 times 2^-4000", Norm(small(1, -4000)), 1, -4000)
	wantDyad(t, "8 times 2^-4000", Norm(small(8, -4000)), 1, -3997)
	wantDyad(t, "1 times 2^-4001", Norm(small(1, -4001)), 0, 0)
	wantDyad(t, "8 times 2^-4001", Norm(small(8, -4001)), 0, 0)
	wantDyad(t, "Norm of a result with an E beyond", Norm(Norm(small(8, 4000))), 0, 0)
}

// A normal form may lie further off than one shift of zed reaches.
func TestC1NormOfManyZeroBits(t *testing.T) {
	for _, n := range []int{127, 128, 129, 140, 3000, 15000} {
		for _, e := range []int{-4000, 0, 4000} {
			d := api.Dyad{M: api.Int{Neg: true, Mag: append(make([]uint64, n), 20, 0)}, E: e}
			wantDyad(t, "many zero bits", Norm(d), -5, e+64*n+2)
			if got, ok := Log(d); got != e+64*n+4 || !ok {
				t.Errorf("Log: %d, %v", got, ok)
			}
		}
	}
}

func TestC1Of(t *testing.T) {
	wantDyad(t, "12, -1", Of(small(12, 0).M, -1), 3, 1)
	wantDyad(t, "1, 4000", Of(small(1, 0).M, 4000), 1, 4000)
	wantDyad(t, "-2, 4000", Of(small(-2, 0).M, 4000), -1, 4001)
	wantDyad(t, "1, -4000", Of(small(1, 0).M, -4000), 1, -4000)
	for _, e := range []int{least, -4001, 4001, greatest} {
		wantDyad(t, "an e beyond", Of(small(-6, 0).M, e), 0, 0)
	}
	for _, e := range edgeE() {
		wantDyad(t, "0 with any e", Of(api.Int{Neg: true, Mag: []uint64{0}}, e), 0, 0)
	}
	for _, d := range samples() {
		wantValue(t, "Of", Of(d.M, d.E), shifted(argValue(d), argBias))
	}
}

func TestC1Sign(t *testing.T) {
	for _, d := range zeroForms() {
		if got := Sign(d); got != 0 {
			t.Errorf("Sign of 0 as %v: %d", d, got)
		}
	}
	for _, d := range samples() {
		if got, want := Sign(d), argValue(d).Sign(); got != want {
			t.Errorf("Sign of %v: %d", d, got)
		}
	}
}

func TestC1Cmp(t *testing.T) {
	for _, c := range []struct {
		a, b api.Dyad
		want int
	}{
		{small(1, 1), small(2, 0), 0}, {small(12, -1), small(3, 1), 0}, {small(-12, -1), small(-6, 0), 0},
		{small(3, -2), small(1, 0), -1}, {small(-3, -2), small(-1, 0), 1}, {small(-1, 0), small(1, -4000), -1},
		{small(1, 4000), small(1, -4000), 1}, {small(-1, 4000), small(-1, -4000), -1},
		{small(3, 4000), small(1, 4000), 1}, {small(2, 4000), small(1, 4000), 1}, {small(2, 4000), small(4, 3999), 0},
		{small(1, 4001), small(0, 0), 0}, {small(1, 4001), small(1, -4000), -1}, {small(-1, -4001), small(-1, -4000), 1},
		{small(5, least), small(-7, greatest), 0},
	} {
		if got := Cmp(c.a, c.b); got != c.want {
			t.Errorf("Cmp of %v and %v: %d", c.a, c.b, got)
		}
	}
	for _, a := range zeroForms() {
		for _, b := range zeroForms() {
			if got := Cmp(a, b); got != 0 {
				t.Errorf("Cmp of %v and %v: %d", a, b, got)
			}
		}
	}
	pairs(func(a, b api.Dyad) {
		if got, want := Cmp(a, b), argValue(a).Cmp(argValue(b)); got != want {
			t.Fatalf("Cmp of %v and %v: %d", a, b, got)
		}
	})
}

func TestC1Log(t *testing.T) {
	for _, c := range []struct {
		d    api.Dyad
		want int
	}{
		{small(3, -2), -1}, {small(-3, -2), -1}, {small(1, 0), 0}, {small(-1, 0), 0}, {small(4, 0), 2}, {small(-5, 1), 3},
		{small(7, 0), 2}, {small(8, 0), 3}, {small(1, -4000), -4000}, {small(1, 4000), 4000}, {small(-8, 4000), 4003},
		{api.Dyad{M: api.Int{Mag: []uint64{0, 1, 0, 0}}, E: -4}, 60}, {api.Dyad{M: api.Int{Mag: []uint64{full}}}, 63},
	} {
		if got, ok := Log(c.d); got != c.want || !ok {
			t.Errorf("Log of %v: %d, %v", c.d, got, ok)
		}
	}
	for _, d := range zeroForms() {
		if got, ok := Log(d); got != 0 || ok {
			t.Errorf("Log of 0 as %v: %d, %v", d, got, ok)
		}
	}
	for _, d := range samples() {
		size := new(big.Int).Abs(argValue(d))
		got, ok := Log(d)
		if size.Sign() == 0 {
			if got != 0 || ok {
				t.Errorf("Log of %v: %d, %v", d, got, ok)
			}
			continue
		}
		if !ok || shifted(big.NewInt(1), got+argBias).Cmp(size) > 0 || shifted(big.NewInt(1), got+1+argBias).Cmp(size) <= 0 {
			t.Errorf("Log of %v: %d, %v", d, got, ok)
		}
	}
}
