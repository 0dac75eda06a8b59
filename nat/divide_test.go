package nat

import (
	"math/big"
	"testing"
)

func wantDivMod(t *testing.T, a, b []uint64) {
	t.Helper()
	q, r, ok := DivMod(a, b)
	if value(b).Sign() == 0 {
		if ok || q != nil || r != nil {
			t.Fatalf("DivMod(%x, %x): %x, %x, %v", a, b, q, r, ok)
		}
		return
	}
	if !ok {
		t.Fatalf("DivMod(%x, %x): false", a, b)
	}
	wantQ, wantR := new(big.Int).QuoRem(value(a), value(b), new(big.Int))
	wantNumber(t, "DivMod, quotient", q, wantQ)
	wantNumber(t, "DivMod, remainder", r, wantR)
}

func TestA4DivMod(t *testing.T) {
	q, r, _ := DivMod([]uint64{7, 0}, []uint64{2, 0, 0})
	wantLimbs(t, "7 by 2, quotient", q, 3)
	wantLimbs(t, "7 by 2, remainder", r, 1)
	q, r, _ = DivMod([]uint64{0, 0}, []uint64{2})
	wantLimbs(t, "0 by 2, quotient", q)
	wantLimbs(t, "0 by 2, remainder", r)
	for _, zero := range [][]uint64{nil, {}, {0}, {0, 0, 0}} {
		if q, r, ok := DivMod([]uint64{5, 6}, zero); ok || q != nil || r != nil {
			t.Errorf("by 0 of %d limbs: %x, %x, %v", len(zero), q, r, ok)
		}
	}
	pairs(func(a, b []uint64) { wantDivMod(t, a, b) })
}

// A quotient limb is guessed; here the guess is wrong as often and as far as it can be.
func TestA4WrongGuesses(t *testing.T) {
	wantDivMod(t, []uint64{0, 0, 1 << 63}, []uint64{full, 1 << 63})
	wantDivMod(t, []uint64{0, full, full - 1}, []uint64{full, full})
	wantDivMod(t, []uint64{0, 0, 1 << 63, 1<<63 - 1}, []uint64{1, 0, 1 << 63})
	for _, a0 := range edgeLimbs {
		for _, a1 := range edgeLimbs {
			for _, a2 := range edgeLimbs {
				for _, a3 := range edgeLimbs {
					wantDivMod(t, []uint64{a0, a1, a2, a3}, []uint64{a1, a0, a3})
					wantDivMod(t, []uint64{a0, a1, a2}, []uint64{a1, a3})
				}
			}
		}
	}
}

// A product, and its neighbours, by a factor: remainders 0, 1 and b - 1.
func TestProductByFactor(t *testing.T) {
	pairs(func(a, b []uint64) {
		if value(b).Sign() == 0 {
			return
		}
		product := Mul(a, b)
		q, r, ok := DivMod(product, b)
		if !ok || Cmp(q, a) != 0 || len(r) != 0 {
			t.Fatalf("a b by b, of %x and %x: %x, %x, %v", a, b, q, r, ok)
		}
		wantDivMod(t, Add(product, []uint64{1}), b)
		if less, ok := Sub(product, []uint64{1}); ok {
			wantDivMod(t, less, b)
		}
	})
}

func TestA4LongNumbers(t *testing.T) {
	s := source(362436069)
	a, b := s.list(1600), s.list(700)
	wantNumber(t, "long Mul", Mul(a, b), new(big.Int).Mul(value(a), value(b)))
	wantDivMod(t, a, b)
	wantNumber(t, "long Gcd", Gcd(a[:300], b[:290]), new(big.Int).GCD(nil, nil, value(a[:300]), value(b[:290])))
}

func TestA4Gcd(t *testing.T) {
	wantLimbs(t, "12 and 18", Gcd([]uint64{12}, []uint64{18}), 6)
	wantLimbs(t, "0 and 0", Gcd(nil, []uint64{0, 0}))
	wantLimbs(t, "0 and b", Gcd([]uint64{0}, []uint64{3, 4, 0}), 3, 4)
	wantLimbs(t, "a and 0", Gcd([]uint64{3, 4, 0}, nil), 3, 4)
	wantLimbs(t, "a and a", Gcd([]uint64{3, 4}, []uint64{3, 4, 0}), 3, 4)
	pairs(func(a, b []uint64) {
		want := new(big.Int).GCD(nil, nil, value(a), value(b))
		wantNumber(t, "Gcd", Gcd(a, b), want)
	})
}

func TestA4GcdOfMultiples(t *testing.T) {
	s := source(521288629)
	for n := range 60 {
		common, x, y := s.list(n/10+1), s.list(n/5+1), s.list(n/7+1)
		a, b := Mul(common, x), Mul(common, y)
		want := new(big.Int).GCD(nil, nil, value(a), value(b))
		wantNumber(t, "Gcd of multiples", Gcd(a, b), want)
	}
}
