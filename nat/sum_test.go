package nat

import (
	"math/big"
	"testing"
)

func TestA2Add(t *testing.T) {
	wantLimbs(t, "2^64 - 1 and 1", Add([]uint64{full}, []uint64{1}), 0, 1)
	wantLimbs(t, "0 and 0", Add([]uint64{0, 0}, nil))
	wantLimbs(t, "leading zeros", Add([]uint64{1, 0, 0}, []uint64{2, 0}), 3)
	wantLimbs(t, "long carry", Add([]uint64{1}, []uint64{full, full, full, 0}), 0, 0, 0, 1)
	pairs(func(a, b []uint64) {
		wantNumber(t, "Add", Add(a, b), new(big.Int).Add(value(a), value(b)))
	})
}

func TestA2Sub(t *testing.T) {
	if d, ok := Sub([]uint64{1}, []uint64{2}); ok || d != nil {
		t.Errorf("1 - 2: got %x, %v", d, ok)
	}
	if d, ok := Sub(nil, []uint64{0, 0}); !ok || len(d) != 0 {
		t.Errorf("0 - 0: got %x, %v", d, ok)
	}
	if d, ok := Sub([]uint64{5, 0}, []uint64{5, 0, 0, 0}); !ok || len(d) != 0 {
		t.Errorf("5 - 5 with leading zeros: got %x, %v", d, ok)
	}
	d, _ := Sub([]uint64{0, 0, 0, 1}, []uint64{1})
	wantLimbs(t, "long borrow", d, full, full, full)
	pairs(func(a, b []uint64) {
		d, ok := Sub(a, b)
		want := new(big.Int).Sub(value(a), value(b))
		if ok != (want.Sign() >= 0) {
			t.Fatalf("Sub(%x, %x): %v", a, b, ok)
		}
		if ok {
			wantNumber(t, "Sub", d, want)
		} else if d != nil {
			t.Fatalf("Sub(%x, %x): %x beside false", a, b, d)
		}
	})
}

func TestA2Mul(t *testing.T) {
	wantLimbs(t, "2^63 and 6", Mul([]uint64{1 << 63}, []uint64{6}), 0, 3)
	wantLimbs(t, "by 0", Mul([]uint64{3, 4}, []uint64{0, 0}))
	wantLimbs(t, "by nil", Mul(nil, []uint64{3, 4}))
	wantLimbs(t, "greatest limbs", Mul([]uint64{full, full, 0}, []uint64{full, full}), 1, 0, full-1, full)
	pairs(func(a, b []uint64) {
		wantNumber(t, "Mul", Mul(a, b), new(big.Int).Mul(value(a), value(b)))
	})
}

func TestSumMinusPart(t *testing.T) {
	pairs(func(a, b []uint64) {
		if d, ok := Sub(Add(a, b), b); !ok || Cmp(d, a) != 0 {
			t.Fatalf("(a + b) - b of %x and %x: %x, %v", a, b, d, ok)
		}
	})
}
