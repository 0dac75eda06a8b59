package nat

import (
	"math/big"
	"slices"
	"testing"
)

// clamped is what A3 says a shift count means.
func clamped(n int) uint {
	switch {
	case n < 0:
		return 0
	case n > 8192:
		return 8192
	}
	return uint(n)
}

func shiftCounts() []int {
	const most = int(^uint(0) >> 1)
	out := []int{-most - 1, -8192, -65, -64, -1, 255, 256, 257, 8191, 8192, 8193, 1 << 20, most}
	for n := range 200 {
		out = append(out, n)
	}
	return out
}

func TestA3Shl(t *testing.T) {
	wantLimbs(t, "0 by 8192", Shl([]uint64{0}, 8192))
	wantLimbs(t, "3 by -1", Shl([]uint64{3, 0}, -1), 3)
	wantLimbs(t, "5 by 66", Shl([]uint64{5, 0}, 66), 0, 20)
	wantLimbs(t, "a bit into a new limb", Shl([]uint64{1 << 63}, 1), 0, 1)
	if got := BitLen(Shl([]uint64{1}, 8193)); got != 8193 {
		t.Errorf("1 by 8193 has %d bits, want those of 2^8192", got)
	}
	for _, a := range samples() {
		for _, n := range shiftCounts() {
			wantNumber(t, "Shl", Shl(a, n), new(big.Int).Lsh(value(a), clamped(n)))
		}
	}
}

func TestA3Shr(t *testing.T) {
	wantLimbs(t, "5 by 1", Shr([]uint64{5}, 1), 2)
	wantLimbs(t, "3 by -1", Shr([]uint64{3, 0}, -1), 3)
	wantLimbs(t, "all bits out", Shr([]uint64{full, full}, 128))
	wantLimbs(t, "0", Shr(nil, 5))
	long := append(make([]uint64, 128), 6, 7)
	wantLimbs(t, "by 8192", Shr(long, 8192), 6, 7)
	wantLimbs(t, "by 8193 is by 8192", Shr(long, 8193), 6, 7)
	for _, a := range append(samples(), long) {
		for _, n := range shiftCounts() {
			wantNumber(t, "Shr", Shr(a, n), new(big.Int).Rsh(value(a), clamped(n)))
		}
	}
}

func TestShiftsUndoEachOther(t *testing.T) {
	for _, a := range samples() {
		for _, n := range shiftCounts() {
			if got := Shr(Shl(a, n), n); !slices.Equal(got, Norm(a)) {
				t.Fatalf("Shr of Shl of %x by %d: %x", a, n, got)
			}
		}
	}
}
