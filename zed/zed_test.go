package zed

import (
	"math/big"
	"testing"

	"hairline/api"
)

func TestB1Norm(t *testing.T) {
	for _, zero := range zeroForms() {
		wantSmall(t, "Norm of 0", Norm(zero), 0)
	}
	wantSmall(t, "leading zeros", Norm(api.Int{Neg: true, Mag: []uint64{7, 0, 0}}), -7)
	for _, a := range samples() {
		wantValue(t, "Norm", Norm(a), value(a))
	}
}

func TestB1Of(t *testing.T) {
	for _, n := range []int64{0, 1, -1, 2, -2, 1 << 32, -1 << 32, most, most - 1, least, least + 1, -most} {
		wantSmall(t, "Of", Of(n), n)
	}
}

func TestB1Small(t *testing.T) {
	for _, a := range samples() {
		n, ok := Small(a)
		want := value(a)
		if ok != want.IsInt64() {
			t.Fatalf("Small of %d: %v", want, ok)
		}
		if ok && n != want.Int64() || !ok && n != 0 {
			t.Fatalf("Small of %d: %d, %v", want, n, ok)
		}
	}
}

func TestB1SmallAtTheEnds(t *testing.T) {
	for _, c := range []struct {
		neg  bool
		mag  []uint64
		want int64
		ok   bool
	}{
		{false, []uint64{1<<63 - 2}, most - 1, true},
		{false, []uint64{1<<63 - 1, 0, 0}, most, true},
		{false, []uint64{1 << 63}, 0, false},
		{false, []uint64{1<<63 + 1}, 0, false},
		{true, []uint64{1<<63 - 1}, -most, true},
		{true, []uint64{1 << 63, 0}, least, true},
		{true, []uint64{1<<63 + 1}, 0, false},
		{true, []uint64{full}, 0, false},
		{false, []uint64{0, 1}, 0, false},
		{true, []uint64{5, 1}, 0, false},
		{true, []uint64{0, 0}, 0, true},
		{true, nil, 0, true},
	} {
		if got, ok := Small(api.Int{Neg: c.neg, Mag: c.mag}); got != c.want || ok != c.ok {
			t.Errorf("Small of Neg %v, %x: %d, %v", c.neg, c.mag, got, ok)
		}
	}
	for _, n := range []int64{least, least + 1, -1, 0, 1, most - 1, most} {
		if got, ok := Small(Of(n)); got != n || !ok {
			t.Errorf("Small of Of of %d: %d, %v", n, got, ok)
		}
	}
	wantValue(t, "least int64 less 1", Sub(Of(least), Of(1)), new(big.Int).Sub(big.NewInt(least), big.NewInt(1)))
}

func TestB1SignAndBitLen(t *testing.T) {
	for _, zero := range zeroForms() {
		if Sign(zero) != 0 || BitLen(zero) != 0 {
			t.Errorf("0 as %v: Sign %d, BitLen %d", zero, Sign(zero), BitLen(zero))
		}
	}
	for _, a := range samples() {
		if got, want := Sign(a), value(a).Sign(); got != want {
			t.Errorf("Sign of %d: %d", value(a), got)
		}
		if got, want := BitLen(a), value(a).BitLen(); got != want {
			t.Errorf("BitLen of %d: %d", value(a), got)
		}
	}
}

func TestB1CmpAndSame(t *testing.T) {
	for _, a := range zeroForms() {
		for _, b := range zeroForms() {
			if Cmp(a, b) != 0 || !Same(a, b) {
				t.Errorf("0 as %v and as %v: %d, %v", a, b, Cmp(a, b), Same(a, b))
			}
		}
	}
	pairs(func(a, b api.Int) {
		want := value(a).Cmp(value(b))
		if got := Cmp(a, b); got != want {
			t.Fatalf("Cmp of %d and %d: %d", value(a), value(b), got)
		}
		if got := Same(a, b); got != (want == 0) {
			t.Fatalf("Same of %d and %d: %v", value(a), value(b), got)
		}
	})
}
