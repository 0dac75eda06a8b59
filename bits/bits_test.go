package bits

import (
	"math"
	"math/big"
	"testing"

	"hairline/api"
)

func TestD1Parts(t *testing.T) {
	for _, c := range []struct {
		b        uint64
		negative bool
		field    int
		fraction uint64
	}{
		{0, false, 0, 0}, {sign, true, 0, 0}, {1, false, 0, 1}, {sign + 1, true, 0, 1},
		{unit - 1, false, 0, unit - 1}, {unit, false, 1, 0}, {2*unit - 1, false, 1, unit - 1}, {sign + unit, true, 1, 0},
		{1023 * unit, false, 1023, 0}, {1024*unit - 1, false, 1023, unit - 1},
		{2046 * unit, false, 2046, 0}, {2047*unit - 1, false, 2046, unit - 1}, {sign + 2046*unit, true, 2046, 0},
		{2047 * unit, false, 2047, 0}, {2047*unit + 1, false, 2047, 1}, {sign - 1, false, 2047, unit - 1},
		{sign + 2047*unit, true, 2047, 0}, {full, true, 2047, unit - 1},
	} {
		negative, field, fraction := Parts(c.b)
		if negative != c.negative || field != c.field || fraction != c.fraction {
			t.Errorf("Parts of %#x: %v, %d, %#x", c.b, negative, field, fraction)
		}
	}
	for _, b := range patterns() {
		negative, field, fraction := Parts(b)
		again := uint64(field)<<52 | fraction
		if negative {
			again += sign
		}
		if field < 0 || field > 2047 || fraction >= unit || again != b {
			t.Fatalf("Parts of %#x: %v, %d, %#x", b, negative, field, fraction)
		}
	}
}

func TestD1ValueAtTheEdges(t *testing.T) {
	for _, c := range []struct {
		b uint64
		m int64
		e int
	}{
		{0, 0, 0}, {sign, 0, 0}, {1, 1, -1074}, {sign + 1, -1, -1074}, {2, 1, -1073}, {3, 3, -1074},
		{unit - 1, unit - 1, -1074}, {unit, 1, -1022}, {unit + 1, unit + 1, -1074}, {2*unit - 1, 2*unit - 1, -1074}, {2 * unit, 1, -1021},
		{4607182418800017408, 1, 0}, {sign + 4607182418800017408, -1, 0}, {4607182418800017408 + unit/2, 3, -1},
		{2046 * unit, 1, 1023}, {2047*unit - 1, 2*unit - 1, 971}, {sign + 2047*unit - 1, -(2*unit - 1), 971},
	} {
		got, code := Value(c.b)
		if code != api.OK || got.E != c.e {
			t.Errorf("Value of %#x: %v, %d", c.b, got, code)
		}
		wantDyad(t, "Value", got, exact(small(c.m, c.e)))
	}
}

func TestD1Value(t *testing.T) {
	for _, b := range patterns() {
		got, code := Value(b)
		if b>>52&2047 == 2047 {
			if code != api.ErrArg || got.M.Neg || len(got.M.Mag) > 0 || got.E != 0 {
				t.Fatalf("Value of %#x: %v, %d, want ErrArg", b, got, code)
			}
			continue
		}
		if code != api.OK {
			t.Fatalf("Value of %#x: %d", b, code)
		}
		wantDyad(t, "Value", got, new(big.Rat).SetFloat64(math.Float64frombits(b)))
	}
}

func TestD1OfValue(t *testing.T) {
	for _, b := range patterns() {
		d, code := Value(b)
		if code != api.OK {
			continue
		}
		want := b
		if b == sign {
			want = 0
		}
		got, code := Of(d)
		wantPattern(t, "Of the value", d, got, code, want)
	}
}

func TestD1OfAtTheEdges(t *testing.T) {
	const one = 1023 * unit
	for _, c := range []struct {
		d    api.Dyad
		want uint64
	}{
		{small(3, -1), one + unit/2}, {small(-3, -1), sign + one + unit/2}, {small(1, 0), one}, {small(-64, -6), sign + one},
		{small(1, -1074), 1}, {small(-1, -1074), sign + 1}, {small(4, -1076), 1}, {small(3, -1074), 3}, {small(unit-1, -1074), unit - 1},
		{small(1, -1022), unit}, {small(-1, -1022), sign + unit}, {small(unit+1, -1074), unit + 1}, {small(1, -1023), unit / 2},
		{small(1, 1023), 2046 * unit}, {small(2*unit-1, 971), 2047*unit - 1}, {small(-(2*unit - 1), 971), sign + 2047*unit - 1},
		{small(2*unit-1, 0), 1075*unit + unit - 1}, {small(4*unit-2, 0), 1076*unit + unit - 1},
		{made(shifted(big.NewInt(1), 5000), -4000), 2023 * unit}, {made(shifted(big.NewInt(5), 2926), -4000), 5},
	} {
		for _, form := range forms(c.d) {
			if form.E >= -4000 {
				got, code := Of(form)
				wantPattern(t, "Of", form, got, code, c.want)
			}
		}
	}
}

func TestD1OfWithoutPattern(t *testing.T) {
	for _, d := range []api.Dyad{
		small(1, 1024), small(-1, 1024), small(2, 1023), small(1, 1025), small(1, 4000), small(2*unit-1, 972), small(4*unit-1, 970), small(1, 2048),
		small(1, -1075), small(-1, -1075), small(3, -1075), small(2*unit-1, -1075), small(2*unit+1, -1075), small(1, -1076), small(1, -4000),
		small(2*unit+1, 0), small(4*unit-1, 0), beside(0, 53, 1), beside(0, 54, -1), beside(0, 64, 1), beside(-1022, 53, 1), beside(-1022, 53, -1),
		// In normal form these have an E that counts as 0 in an argument.
		small(8, 4000), made(shifted(big.NewInt(-1), 700), 3990),
		made(shifted(big.NewInt(1), 20000), 0),
	} {
		for _, form := range forms(d) {
			if form.E >= -4000 {
				got, code := Of(form)
				wantNoPattern(t, "Of", form, got, code)
			}
		}
	}
}

func TestD1OfZero(t *testing.T) {
	for _, d := range zeroForms() {
		got, code := Of(d)
		wantPattern(t, "Of 0", d, got, code, 0)
	}
}

func TestD1Of(t *testing.T) {
	for _, d := range dyads() {
		got, code := Of(d)
		x := number(d)
		// Float64 also tells whether it is exact, but says so of a number far
		// below 2^-1074 that it makes 0: the double is held against the number.
		float, _ := x.Float64()
		if !math.IsInf(float, 0) && new(big.Rat).SetFloat64(float).Cmp(x) == 0 {
			wantPattern(t, "Of", d, got, code, math.Float64bits(float))
			continue
		}
		wantNoPattern(t, "Of", d, got, code)
	}
}
