package bits

import (
	"math"
	"math/big"
	"testing"

	"hairline/api"
)

func TestD2Normal(t *testing.T) {
	for _, c := range []struct {
		b    uint64
		want bool
	}{
		{0, false}, {sign, false}, {1, false}, {unit - 1, false}, {sign + unit - 1, false},
		{unit, true}, {sign + unit, true}, {2*unit - 1, true}, {1023 * unit, true},
		{2046 * unit, true}, {2047*unit - 1, true}, {sign + 2047*unit - 1, true},
		{2047 * unit, false}, {2047*unit + 1, false}, {sign + 2047*unit, false}, {full, false},
	} {
		if got := Normal(c.b); got != c.want {
			t.Errorf("Normal of %#x: %v", c.b, got)
		}
	}
	for _, b := range patterns() {
		size := math.Abs(math.Float64frombits(b))
		if got := Normal(b); got != (size >= 0x1p-1022 && size <= math.MaxFloat64) {
			t.Errorf("Normal of %#x: %v", b, got)
		}
	}
}

func TestD2Binade(t *testing.T) {
	for _, c := range []struct {
		b    uint64
		want int
	}{
		{unit, -1022}, {2*unit - 1, -1022}, {2 * unit, -1021}, {sign + unit, -1022}, {1023 * unit, 0}, {1023*unit - 1, -1},
		{sign + 1024*unit - 1, 0}, {2046 * unit, 1023}, {2047*unit - 1, 1023}, {sign + 2047*unit - 1, 1023},
	} {
		if got, code := Binade(c.b); got != c.want || code != api.OK {
			t.Errorf("Binade of %#x: %d, %d", c.b, got, code)
		}
	}
	for _, b := range []uint64{0, sign, 1, sign + 1, unit - 1, sign + unit - 1, 2047 * unit, sign - 1, sign + 2047*unit, full} {
		if got, code := Binade(b); got != 0 || code != api.ErrArg {
			t.Errorf("Binade of %#x, which is not normal: %d, %d", b, got, code)
		}
	}
	for _, b := range patterns() {
		got, code := Binade(b)
		if !Normal(b) {
			if got != 0 || code != api.ErrArg {
				t.Errorf("Binade of %#x: %d, %d", b, got, code)
			}
			continue
		}
		if want := math.Ilogb(math.Float64frombits(b)); got != want || code != api.OK {
			t.Errorf("Binade of %#x: %d, %d, want %d", b, got, code, want)
		}
	}
}

func TestD2First(t *testing.T) {
	got, code := First(0)
	wantPattern(t, "First of 0", 0, got, code, 4607182418800017408)
	for e := -1022; e <= 1023; e++ {
		got, code := First(e)
		wantPattern(t, "First", e, got, code, math.Float64bits(math.Ldexp(1, e)))
		if n, code := Binade(got); n != e || code != api.OK {
			t.Errorf("Binade of First of %d: %d, %d", e, n, code)
		}
	}
	for _, e := range []int{least, least + 1, -2047, -1075, -1074, -1024, -1023, 1024, 1025, 2047, 2048, greatest - 1, greatest, 1 << 40, -1 << 40} {
		got, code := First(e)
		wantNoPattern(t, "First beyond", e, got, code)
	}
}

func TestD2NearAtTheEdges(t *testing.T) {
	const one = 1023 * unit
	for _, c := range []struct {
		d    api.Dyad
		want uint64
	}{
		{small(1, 0), one}, {small(3, -1), one + unit/2}, {made(shifted(big.NewInt(1), 80), -80), one},
		{small(1, -1022), unit}, {beside(-1022, 52, 1), unit + 1}, {beside(-1022, 53, 1), unit}, {beside(-1022, 2900, 1), unit},
		{beside(0, 52, 1), one + 1}, {beside(0, 53, 1), one}, {beside(0, 53, 3), one + 1}, {beside(0, 53, -1), one - 1},
		{beside(0, 54, -1), one - 1}, {beside(0, 54, 3), one}, {beside(0, 64, -1), one - 1}, {beside(0, 4000, -1), one - 1}, {beside(0, 4000, 1), one},
		{small(1, 1023), 2046 * unit}, {beside(1024, 53, -1), 2047*unit - 1}, {beside(1024, 54, -1), 2047*unit - 1}, {beside(1024, 5000, -1), 2047*unit - 1},
		{beside(1024, 53, -2), 2047*unit - 2}, {beside(1024, 54, -3), 2047*unit - 2}, {beside(1023, 5000, -1), 2046*unit - 1},
	} {
		for _, form := range forms(c.d) {
			if form.E >= -4000 {
				got, code := Near(form)
				wantPattern(t, "Near", form, got, code, c.want)
			}
		}
	}
}

func TestD2NearOutside(t *testing.T) {
	for _, d := range []api.Dyad{
		beside(-1022, 52, -1), beside(-1022, 53, -1), beside(-1022, 2900, -1), small(1, -1023), small(1, -1074), small(1, -1075), small(1, -4000),
		small(1, 1024), beside(1024, 52, 1), beside(1024, 5000, 1), small(2, 1023), small(1, 4000), made(shifted(big.NewInt(1), 20000), 0),
		small(-1, 0), small(-3, -1), small(-1, -1022), small(-1, 1023), small(-1, 1024), small(-1, -1074),
		small(8, 4000), made(shifted(big.NewInt(1), 700), 3990),
	} {
		for _, form := range forms(d) {
			got, code := Near(form)
			wantNoPattern(t, "Near", form, got, code)
		}
	}
	for _, d := range zeroForms() {
		got, code := Near(d)
		wantNoPattern(t, "Near 0", d, got, code)
	}
}

func TestD2Near(t *testing.T) {
	low, high := power(-1022), power(1024)
	for _, d := range dyads() {
		got, code := Near(d)
		x := number(d)
		if x.Cmp(low) < 0 || x.Cmp(high) >= 0 {
			wantNoPattern(t, "Near", d, got, code)
			continue
		}
		below := new(big.Float).SetPrec(53).SetMode(big.ToNegativeInf).SetRat(x)
		want, _ := below.Float64()
		wantPattern(t, "Near", d, got, code, math.Float64bits(want))
	}
}

func TestD2NearADouble(t *testing.T) {
	for _, b := range patterns() {
		if !Normal(b) || b >= sign {
			continue
		}
		d, _ := Value(b)
		got, code := Near(d)
		wantPattern(t, "Near a double", d, got, code, b)
	}
}

// The chapter's Consequences.
func TestOrderOfPatterns(t *testing.T) {
	for _, b := range patterns() {
		if b >= sign || !Normal(b) || !Normal(b+1) {
			continue
		}
		x, _ := Value(b)
		y, _ := Value(b + 1)
		if exact(x).Cmp(exact(y)) >= 0 {
			t.Errorf("the values of %#x and of the next pattern do not increase", b)
		}
	}
	for e := -1022; e < 1023; e++ {
		x, _ := First(e)
		y, _ := First(e + 1)
		if y-x != unit {
			t.Errorf("the first patterns of binades %d and %d differ by %#x", e, e+1, y-x)
		}
	}
}
