package zed

import (
	"math/big"
	"testing"

	"hairline/api"
)

func shiftCounts() []int {
	const greatest = int(^uint(0) >> 1)
	return []int{-greatest - 1, -8192, -64, -1, 0, 1, 2, 31, 32, 63, 64, 65, 127, 128, 200, 8191, 8192, 8193, 1 << 20, greatest}
}

// clamped is what chapter 1 says a shift count means.
func clamped(n int) uint {
	return uint(min(max(n, 0), 8192))
}

func TestB3Shl(t *testing.T) {
	wantSmall(t, "-5 by 2", Shl(small(-5), 2), -20)
	wantSmall(t, "-5 by -2", Shl(small(-5), -2), -5)
	wantSmall(t, "-0 by 9", Shl(api.Int{Neg: true, Mag: []uint64{0}}, 9), 0)
	if got := BitLen(Shl(small(-1), 9000)); got != 8193 {
		t.Errorf("-1 by 9000 has %d bits, want those of 2^8192", got)
	}
	for _, a := range samples() {
		for _, n := range shiftCounts() {
			wantValue(t, "Shl", Shl(a, n), new(big.Int).Lsh(value(a), clamped(n)))
		}
	}
}

func TestB3Shr(t *testing.T) {
	for _, c := range []struct {
		a    int64
		n    int
		want int64
	}{
		{5, 1, 2}, {-5, 1, -3}, {-4, 1, -2}, {-4, 2, -1}, {-5, 2, -2},
		{-1, 0, -1}, {-1, 1, -1}, {-1, 8192, -1}, {-1, 1 << 30, -1}, {1, 1, 0},
		{-5, 0, -5}, {-5, -3, -5}, {0, 3, 0}, {-8, 3, -1}, {-9, 3, -2}, {-7, 3, -1},
	} {
		wantSmall(t, "Shr", Shr(small(c.a), c.n), c.want)
	}
	for _, zero := range zeroForms() {
		wantSmall(t, "Shr of 0", Shr(zero, 1), 0)
	}
	deep := append(make([]uint64, 128), 6)
	wantSmall(t, "exact, by 8193, which is 8192", Shr(api.Int{Neg: true, Mag: deep}, 8193), -6)
	deep[0] = 1
	wantSmall(t, "not exact, by 8192", Shr(api.Int{Neg: true, Mag: deep}, 8192), -7)
	for _, a := range samples() {
		for _, n := range shiftCounts() {
			wantValue(t, "Shr", Shr(a, n), new(big.Int).Rsh(value(a), clamped(n)))
		}
	}
}

func TestB3DivMod(t *testing.T) {
	for _, c := range []struct{ a, b, q, r int64 }{
		{-7, 2, -4, 1}, {-7, -2, 4, 1}, {7, -2, -3, 1}, {7, 2, 3, 1},
		{6, 3, 2, 0}, {-6, 3, -2, 0}, {6, -3, -2, 0}, {-6, -3, 2, 0},
		{-1, 5, -1, 4}, {-1, -5, 1, 4}, {1, -5, 0, 1}, {0, -5, 0, 0}, {-5, 1, -5, 0}, {-5, -1, 5, 0},
	} {
		q, r, ok := DivMod(small(c.a), small(c.b))
		if !ok {
			t.Fatalf("DivMod of %d by %d: false", c.a, c.b)
		}
		wantSmall(t, "quotient", q, c.q)
		wantSmall(t, "remainder", r, c.r)
	}
	pairs(func(a, b api.Int) {
		q, r, ok := DivMod(a, b)
		if value(b).Sign() == 0 {
			wantNothing(t, "DivMod by 0, quotient", q, ok)
			wantNothing(t, "DivMod by 0, remainder", r, ok)
			return
		}
		wantQ, wantR := new(big.Int).DivMod(value(a), value(b), new(big.Int))
		wantValue(t, "quotient", q, wantQ)
		wantValue(t, "remainder", r, wantR)
		if !ok {
			t.Fatalf("DivMod of %d by %d: false", value(a), value(b))
		}
	})
}

// floor returns x / y rounded down; big's own division does so only for a
// positive y.
func floor(x, y *big.Int) *big.Int {
	if y.Sign() < 0 {
		x, y = new(big.Int).Neg(x), new(big.Int).Neg(y)
	}
	return new(big.Int).Div(x, y)
}

func TestB3Round(t *testing.T) {
	for _, c := range []struct{ a, b, want int64 }{
		{-7, 2, -3}, {7, 2, 4}, {7, -2, -3}, {-7, -2, 4},
		{1, 2, 1}, {-1, 2, 0}, {1, -2, 0}, {-1, -2, 1}, {3, 6, 1}, {-3, 6, 0},
		{1, 3, 0}, {2, 3, 1}, {-1, 3, 0}, {-2, 3, -1}, {5, 3, 2}, {-5, 3, -2}, {4, -3, -1}, {5, -3, -2},
		{6, 3, 2}, {-6, 3, -2}, {0, -4, 0}, {9, 1, 9}, {9, -1, -9},
	} {
		got, ok := Round(small(c.a), small(c.b))
		if !ok {
			t.Fatalf("Round of %d by %d: false", c.a, c.b)
		}
		wantSmall(t, "Round", got, c.want)
	}
	pairs(func(a, b api.Int) {
		got, ok := Round(a, b)
		x, y := value(a), value(b)
		if y.Sign() == 0 {
			wantNothing(t, "Round by 0", got, ok)
			return
		}
		twice := new(big.Int).Lsh(y, 1)
		wantValue(t, "Round", got, floor(new(big.Int).Add(new(big.Int).Lsh(x, 1), y), twice))
		if !ok {
			t.Fatalf("Round of %d by %d: false", x, y)
		}
	})
}

// An odd multiple of half of b is a half exactly, and 1 to either side of it is not.
func TestB3RoundHalves(t *testing.T) {
	s := source(521288629)
	for n := range 60 {
		half, odd := s.integer(n/12+1), s.integer(n/20+1)
		odd.Mag[0] |= 1
		half.Mag[0] |= 2
		b := Add(half, half)
		lower := floor(value(odd), big.NewInt(2))
		upper := new(big.Int).Add(lower, big.NewInt(1))
		middle := Mul(odd, half)
		step := Of(int64(Sign(b)))
		for _, c := range []struct {
			a    api.Int
			want *big.Int
		}{{middle, upper}, {Add(middle, step), upper}, {Sub(middle, step), lower}} {
			got, _ := Round(c.a, b)
			wantValue(t, "Round near a half", got, c.want)
		}
	}
}

func TestB3Up(t *testing.T) {
	for _, c := range []struct{ a, b, want int64 }{
		{7, 2, 4}, {-7, 2, -3}, {7, -2, -3}, {-7, -2, 4}, {6, 3, 2}, {-6, 3, -2}, {6, -3, -2}, {-6, -3, 2},
		{1, 5, 1}, {-1, 5, 0}, {1, -5, 0}, {-1, -5, 1}, {0, 5, 0}, {0, -5, 0},
	} {
		got, ok := Up(small(c.a), small(c.b))
		if !ok {
			t.Fatalf("Up of %d by %d: false", c.a, c.b)
		}
		wantSmall(t, "Up", got, c.want)
	}
	pairs(func(a, b api.Int) {
		got, ok := Up(a, b)
		x, y := value(a), value(b)
		if y.Sign() == 0 {
			wantNothing(t, "Up by 0", got, ok)
			return
		}
		below := floor(new(big.Int).Neg(x), y)
		wantValue(t, "Up", got, below.Neg(below))
		if !ok {
			t.Fatalf("Up of %d by %d: false", x, y)
		}
	})
}

func TestB3ByZero(t *testing.T) {
	for _, zero := range zeroForms() {
		for _, a := range []api.Int{{}, small(5), small(-5), {Neg: true, Mag: []uint64{1, 2, 3}}} {
			q, r, ok := DivMod(a, zero)
			wantNothing(t, "DivMod, quotient", q, ok)
			wantNothing(t, "DivMod, remainder", r, ok)
			n, ok := Round(a, zero)
			wantNothing(t, "Round", n, ok)
			u, ok := Up(a, zero)
			wantNothing(t, "Up", u, ok)
		}
	}
}

func TestB3Gcd(t *testing.T) {
	wantSmall(t, "-12 and 18", Gcd(small(-12), small(18)), 6)
	wantSmall(t, "-12 and -18", Gcd(small(-12), small(-18)), 6)
	wantSmall(t, "0 and -5", Gcd(api.Int{Neg: true}, small(-5)), 5)
	wantSmall(t, "-5 and 0", Gcd(small(-5), api.Int{}), 5)
	wantSmall(t, "0 and 0", Gcd(api.Int{Neg: true}, api.Int{Neg: true}), 0)
	pairs(func(a, b api.Int) {
		x, y := value(a), value(b)
		wantValue(t, "Gcd", Gcd(a, b), new(big.Int).GCD(nil, nil, x.Abs(x), y.Abs(y)))
	})
}
