package dyad

import (
	"math/big"
	"testing"

	"hairline/api"
)

func TestC3FloorAndCeil(t *testing.T) {
	for _, c := range []struct {
		d           api.Dyad
		q           int
		floor, ceil int64
	}{
		{small(-3, -2), 1, -2, -1}, {small(3, -2), 1, 1, 2}, {small(-3, -2), 0, -1, 0}, {small(3, -2), 0, 0, 1},
		{small(-3, -2), 2, -3, -3}, {small(3, -2), 3, 6, 6}, {small(3, -2), -9, 0, 1}, {small(-3, -2), -9, -1, 0},
		{small(5, 0), 0, 5, 5}, {small(-5, 0), 0, -5, -5}, {small(-5, 0), -1, -3, -2}, {small(5, 0), -1, 2, 3},
		{small(-8, 0), -3, -1, -1}, {small(8, -3), 0, 1, 1}, {small(-8, 0), -4, -1, 0}, {small(12, -1), -1, 3, 3},
		{small(0, 17), 5, 0, 0}, {small(7, 4001), -4000, 0, 0}, {small(7, -4001), 4000, 0, 0}, {small(-7, least), greatest, 0, 0},
		{small(1, 4000), -4000, 1, 1}, {small(1, 4000), -4001, 1, 1}, {small(-3, 4000), least, -3, -3},
		{small(1, -4000), 4000, 1, 1}, {small(-1, -4000), 4001, -1, -1}, {small(3, -4000), greatest, 3, 3},
		{small(1, -4000), 3999, 0, 1}, {small(-1, -4000), 3999, -1, 0}, {small(1, -4000), least, 0, 1}, {small(-1, -4000), least, -1, 0},
		{api.Dyad{M: api.Int{Neg: true, Mag: []uint64{5, 0, 0}}, E: -1}, 0, -3, -2}, {api.Dyad{M: api.Int{Neg: true, Mag: []uint64{0, 0}}, E: -1}, 0, 0, 0},
	} {
		wantInteger(t, "Floor", Floor(c.d, c.q), big.NewInt(c.floor))
		wantInteger(t, "Ceil", Ceil(c.d, c.q), big.NewInt(c.ceil))
	}
}

func TestC3GreatResults(t *testing.T) {
	want := shifted(big.NewInt(-3), 8000)
	for _, q := range []int{4000, 4001, greatest} {
		wantInteger(t, "Floor", Floor(small(-3, 4000), q), want)
		wantInteger(t, "Ceil", Ceil(small(-3, 4000), q), want)
	}
}

func TestC3SamplesAtAllCounts(t *testing.T) {
	one := shifted(big.NewInt(1), argBias)
	for _, d := range samples() {
		for _, q := range append(edgeE(), 3, -3, 5000, -5000) {
			by := min(max(q, -4000), 4000)
			// A further 2^4000 keeps what a negative q shifts out.
			exact := shifted(argValue(d), by+4000)
			unit := shifted(one, 4000)
			floor, rest := new(big.Int).DivMod(exact, unit, new(big.Int))
			wantInteger(t, "Floor", Floor(d, q), floor)
			if rest.Sign() > 0 {
				floor.Add(floor, big.NewInt(1))
			}
			wantInteger(t, "Ceil", Ceil(d, q), floor)
		}
	}
}
