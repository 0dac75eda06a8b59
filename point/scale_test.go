package point

import (
	"math/big"
	"testing"

	"hairline/api"
)

func wantScale(t *testing.T, b ends, q, want int) {
	t.Helper()
	for _, form := range b.forms(q) {
		if n, ok := Scale(form); n != want || !ok {
			t.Fatalf("Scale of %d to %d at %d: %d, %v, want %d", b.lo, b.hi, q, n, ok, want)
		}
	}
}

func wantNoScale(t *testing.T, b ends, q int) {
	t.Helper()
	for _, form := range b.forms(q) {
		if n, ok := Scale(form); n != 0 || ok {
			t.Fatalf("Scale of %d to %d at %d: %d, %v, want 0, false", b.lo, b.hi, q, n, ok)
		}
	}
}

func TestI1ScaleSamples(t *testing.T) {
	for _, c := range []struct {
		lo, hi int64
		q, n   int
	}{
		{1, 1, 0, 0}, {1, 100, 0, 0}, {2, 2, 0, 1}, {3, 3, 0, 1}, {3, 4, 0, 1}, {4, 4, 0, 2}, {5, 1000, 0, 2},
		{-1, -1, 0, 0}, {-100, -1, 0, 0}, {-2, -2, 0, 1}, {-4, -3, 0, 1}, {-1000, -5, 0, 2}, {-9, -5, 1, 1},
		{1, 1, 1, -1}, {1, 1, 300, -300}, {1, 1, 2048, -2048}, {-1, -1, 2048, -2048}, {2, 2, 1, 0}, {3, 3, 1, 0},
		{1 << 62, 1 << 62, 62, 0}, {1<<62 - 1, 1 << 62, 62, -1}, {-1 << 62, 1 - 1<<62, 62, -1}, {-1 << 62, -1 << 62, 62, 0},
	} {
		wantScale(t, small(c.lo, c.hi), c.q, c.n)
	}
}

// The end that is nearer to 0 counts: at a power of two Scale is by 1 greater than
// just below it.
func TestI1ScaleAtPowersOfTwo(t *testing.T) {
	for _, n := range []int{1, 2, 3, 31, 32, 62, 63, 64, 65, 127, 128, 129, 300, 1000, 2048, 2049, 4095, 4096, 9000} {
		for _, q := range []int{0, 1, 63, 64, 300, 2047, 2048} {
			for by := int64(-1); by <= 1; by++ {
				near := plus(power2(n), by)
				want := n - q
				if by < 0 {
					want--
				}
				for _, far := range []*big.Int{near, plus(near, 1), plus(near, 5), power2(n + 1), power2(2*n + 70)} {
					wantScale(t, ends{near, far}, q, want)
					wantScale(t, ends{near, far}.negative(), q, want)
				}
			}
		}
	}
}

// No number of the ball is less than 2^n without its sign, but one is less than
// 2^(n+1).
func TestI1ScaleIsGreatest(t *testing.T) {
	for lo := int64(-40); lo <= 40; lo++ {
		for hi := lo; hi <= 40; hi++ {
			b := small(lo, hi)
			if b.hasZero() {
				wantNoScale(t, b, 5)
				continue
			}
			n, ok := Scale(b.forms(5)[1])
			for x := lo; x <= hi; x++ {
				if size := max(x, -x); !ok || size < 1<<(n+5) {
					t.Fatalf("Scale of %d to %d at 5: %d, %v, but there is %d", lo, hi, n, ok, x)
				}
			}
			if near := min(max(lo, -lo), max(hi, -hi)); near >= 1<<(n+6) {
				t.Fatalf("Scale of %d to %d at 5: %d is not the greatest", lo, hi, n)
			}
		}
	}
}

func TestI1ScaleOfBallsWithZero(t *testing.T) {
	for _, q := range []int{0, 1, 300, 2048} {
		for _, b := range []ends{
			small(0, 0), small(0, 1), small(-1, 0), small(-1, 1), small(-8, 9), small(-1, 1000), small(-1000, 1),
			{whole(0), power2(3000)}, {negative(power2(3000)), whole(0)}, {negative(power2(64)), power2(64)}, {whole(-1), power2(128)},
		} {
			wantNoScale(t, b, q)
		}
	}
}

func TestI1ScaleOfBallsNotValid(t *testing.T) {
	for _, q := range wrongQ() {
		for _, b := range []ends{small(1, 1), small(1, 9), small(-9, -5), small(0, 0), small(-1, 1), {power2(64), power2(65)}} {
			wantNoScale(t, b, q)
		}
	}
	for _, q := range []int{0, 1, 2048, -1, 2049} {
		for _, b := range []ends{small(2, 1), small(9, 4), small(-1, -2), small(1, 0), small(1, -1), {power2(64), plus(power2(64), -1)}} {
			wantNoScale(t, b, q)
		}
	}
}

// Neg of a 0 and leading zero limbs make no other number.
func TestI1ScaleOfOddForms(t *testing.T) {
	zero, one := api.Int{Neg: true, Mag: []uint64{0, 0}}, api.Int{Mag: []uint64{1, 0, 0, 0}}
	if n, ok := Scale(api.Ball{Lo: zero, Hi: one}); n != 0 || ok {
		t.Errorf("Scale of 0 to 1: %d, %v", n, ok)
	}
	if n, ok := Scale(api.Ball{Lo: one, Hi: one, Q: 7}); n != -7 || !ok {
		t.Errorf("Scale of 1 to 1 at 7: %d, %v", n, ok)
	}
}
