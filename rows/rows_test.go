package rows

import (
	"math"
	"math/big"
	"testing"

	"hairline/api"
)

// sample is a call whose result is computed by hand.
type sample struct {
	t         int64
	q, n      int
	low, high int64
}

func (f function) wantSamples(t *testing.T, all []sample) {
	t.Helper()
	for _, c := range all {
		f.want(t, big.NewInt(c.t), c.q, c.n, big.NewInt(c.low), big.NewInt(c.high))
	}
}

func TestF1ExpByHand(t *testing.T) {
	functions()[0].wantSamples(t, []sample{
		{16, 4, 3, 40, 46},               // 16 + 16 + 8, and 2 times 3 (UP of 8/3)
		{16, 4, 4, 42, 45},               // and 2 (DOWN of 8/3), 3, and 2 times 1
		{16, 4, 1, 16, 48},               // 16, and 2 times 16
		{8, 4, 3, 26, 28},                // 16 + 8 + 2, and 2 times 1 (UP of 1/3)
		{1, 0, 1, 1, 3}, {1, 0, 2, 2, 4}, // 1 + 1, and 2 times 1 (UP of 1/2)
		{0, 0, 1, 1, 1}, {0, 10, 7, 1024, 1024}, // nothing but the first term
	})
}

func TestF2AtanhByHand(t *testing.T) {
	functions()[1].wantSamples(t, []sample{
		{8, 4, 1, 8, 10}, // 8, and 2 times 1 (UP of 2/3)
		{8, 4, 2, 8, 11}, // 8 + 0, and 8 + 1 + 2 times 1 (UP of 1/5)
		{1, 1, 1, 1, 3}, {0, 0, 1, 0, 0}, {0, 9, 400, 0, 0},
	})
}

func TestF2AtanByHand(t *testing.T) {
	functions()[2].wantSamples(t, []sample{
		{8, 4, 1, 7, 9}, // 8 - 1, and 8 - 0 + 1
		{1, 1, 1, 0, 2}, {0, 0, 1, 0, 0}, {0, 9, 400, 0, 0},
	})
}

func TestF3SinByHand(t *testing.T) {
	functions()[3].wantSamples(t, []sample{
		{32, 4, 1, 10, 16}, // 32 - 22, and 32 - 21 + 5
		{1, 0, 1, 0, 2},    // 1 - 1, and 1 - 0 + 1
		{1, 0, 3, -2, 4},   // 1 - 1 + 0 - 1 + 0 - 1, and 1 + 1 + 1 + 1
		{0, 0, 1, 0, 0}, {0, 9, 400, 0, 0},
	})
}

func TestF3CosByHand(t *testing.T) {
	functions()[4].wantSamples(t, []sample{
		{32, 4, 1, -16, -5}, // 16 - 32, and 16 - 32 + 11
		{16, 4, 1, 8, 9},    // 16 - 8, and 16 - 8 + 1
		{2, 0, 1, -1, 0},    // 1 - 2, and 1 - 2 + 1
		{0, 3, 1, 8, 8}, {0, 0, 1, 1, 1}, {0, 9, 400, 512, 512},
	})
}

// F1 to F3: each sum is exactly the one that the chapter describes.
func TestSumsFollowTheChapter(t *testing.T) {
	for _, f := range functions() {
		for _, q := range []int{0, 1, 2, 3, 10, 63, 64, 65, 300, 1199, 1200} {
			for _, x := range arguments(f.halves, q) {
				for _, n := range []int{1, 2, 3, 8, 40} {
					low, high := f.rule(x, q, n)
					f.want(t, x, q, n, low, high)
				}
			}
			for _, x := range arguments(f.halves, q)[:3] {
				for _, n := range []int{399, 400} {
					low, high := f.rule(x, q, n)
					f.want(t, x, q, n, low, high)
				}
			}
		}
	}
}

func TestSumsOfAllSmallArguments(t *testing.T) {
	for _, f := range functions() {
		for q := range 6 {
			for x := range bound(f.halves, q).Int64() + 1 {
				for n := 1; n <= 6; n++ {
					low, high := f.rule(big.NewInt(x), q, n)
					f.want(t, big.NewInt(x), q, n, low, high)
				}
			}
		}
	}
}

// The value of the function lies between LO and HI.
func TestSumsEncloseTheValue(t *testing.T) {
	for _, f := range functions() {
		for _, q := range []int{0, 1, 2, 10, 64, 500, 1200} {
			for _, x := range arguments(f.halves, q) {
				exact := f.exact(new(big.Int).Lsh(x, uint(fine-q)))
				below, above := new(big.Int).Sub(exact, power(slack)), new(big.Int).Add(exact, power(slack))
				for _, n := range []int{1, 2, 7, 100, 400} {
					lo, hi, code := f.call(integer(x), q, n)
					low, high := value(lo), value(hi)
					if code != api.OK || low.Lsh(low, uint(fine-q)).Cmp(above) > 0 || high.Lsh(high, uint(fine-q)).Cmp(below) < 0 {
						t.Fatalf("%s of %d at %d with %d terms: %d to %d, error %d", f.name, x, q, n, value(lo), value(hi), code)
					}
				}
			}
		}
	}
}

// With enough terms there are only as many places between LO and HI as there
// are roundings.
func TestSumsAreNarrow(t *testing.T) {
	for _, f := range functions() {
		for _, q := range []int{64, 300, 600} {
			for _, x := range arguments(f.halves, q) {
				lo, hi, _ := f.call(integer(x), q, 400)
				if width := new(big.Int).Sub(value(hi), value(lo)); width.Cmp(big.NewInt(2000)) > 0 {
					t.Fatalf("%s of %d at %d: %d places wide", f.name, x, q, width)
				}
			}
		}
	}
}

// The functions are those of their names, as the library knows them.
func TestSumsAreNamedRightly(t *testing.T) {
	for i, known := range []func(float64) float64{math.Exp, math.Atanh, math.Atan, math.Sin, math.Cos} {
		f := functions()[i]
		for _, x := range arguments(f.halves, 40) {
			lo, hi, _ := f.call(integer(x), 40, 30)
			want := int64(math.Ldexp(known(math.Ldexp(float64(x.Int64()), -40)), 40))
			if value(lo).Int64() > want+1 || value(hi).Int64() < want-1 || value(hi).Int64()-value(lo).Int64() > 200 {
				t.Errorf("%s of %d: %d to %d, want %d", f.name, x, value(lo), value(hi), want)
			}
		}
	}
}

func TestZeroInAllForms(t *testing.T) {
	for _, f := range functions() {
		for _, q := range []int{0, 1, 3, 64, 1200} {
			want := new(big.Int)
			if f.name == "Exp" || f.name == "Cos" {
				want = power(q)
			}
			for _, zero := range zeroForms() {
				for _, n := range []int{1, 2, 400} {
					lo, hi, code := f.call(zero, q, n)
					wantNormal(t, f.name, lo)
					wantNormal(t, f.name, hi)
					if code != api.OK || value(lo).Cmp(want) != 0 || value(hi).Cmp(want) != 0 {
						t.Fatalf("%s of 0 at %d: %d, %d, error %d", f.name, q, value(lo), value(hi), code)
					}
				}
			}
		}
	}
}

// Two enclosures of one value have a common number, whatever q and n are.
func TestConsequenceCommonNumber(t *testing.T) {
	s := source(97)
	for _, f := range functions() {
		for range 6 {
			const coarse = 5
			x := s.upTo(bound(f.halves, coarse))
			greatestLow, leastHigh := new(big.Int), new(big.Int)
			first := true
			for _, q := range []int{coarse, 6, 40, 64, 333, 1200} {
				for _, n := range []int{1, 2, 3, 30, 400} {
					lo, hi, code := f.call(integer(new(big.Int).Lsh(x, uint(q-coarse))), q, n)
					if code != api.OK {
						t.Fatalf("%s of %d at %d: error %d", f.name, x, q, code)
					}
					low, high := value(lo), value(hi)
					low.Lsh(low, uint(1200-q))
					high.Lsh(high, uint(1200-q))
					if first || low.Cmp(greatestLow) > 0 {
						greatestLow = low
					}
					if first || high.Cmp(leastHigh) < 0 {
						leastHigh = high
					}
					first = false
				}
			}
			if greatestLow.Cmp(leastHigh) > 0 {
				t.Errorf("%s of %d at %d: nothing is in all enclosures", f.name, x, coarse)
			}
		}
	}
}
