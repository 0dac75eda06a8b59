package point

import (
	"math"
	"math/big"
	"strconv"
	"testing"

	"hairline/api"
)

func TestI2Examples(t *testing.T) {
	for m := 1; m <= 128; m++ {
		if got, code := Look(api.Exp2, bitsOf(3), m); !got.Hard || len(got.Least.Mag) > 0 || got.E != 3 || code != api.OK {
			t.Errorf("Exp2 at 3 with m = %d: %v, %d", m, got, code)
		}
		if got, code := Look(api.Log, bitsOf(1), m); !got.Hard || code != api.OK {
			t.Errorf("Log of 1 with m = %d: %v, %d", m, got, code)
		}
	}
	if got, code := Look(api.Exp, bitsOf(1), 10); got.Hard || code != api.OK {
		t.Errorf("Exp of 1: %v, %d", got, code)
	}
}

// I2: all fields are exactly those that the chapter's steps describe.
func TestI2FollowsTheSteps(t *testing.T) {
	for f, name := range names() {
		t.Run(name, func(t *testing.T) {
			t.Parallel()
			for i, b := range patterns(f) {
				wantSteps(t, f, b, 1+i*37%128)
			}
		})
	}
}

func TestI2EachM(t *testing.T) {
	for f, name := range names() {
		t.Run(name, func(t *testing.T) {
			t.Parallel()
			for m := 1; m <= 128; m++ {
				wantSteps(t, f, bitsOf(0.3), m)
				if f != api.Log && f != api.Log2 {
					wantSteps(t, f, bitsOf(-100.25), m)
				}
			}
		})
	}
}

// The ball has m + 160 places, and more if the value is below 1.
func TestI2PlacesOfTheBall(t *testing.T) {
	for _, c := range []struct {
		f    int
		x    float64
		more int
	}{
		{api.Exp, 1, 0}, {api.Exp, 700, 0}, {api.Exp, -700, 0}, {api.Exp, -0.1, 0}, {api.Exp2, -1000.5, 0}, {api.Exp2, 3, 0},
		{api.Log, 3, 0}, {api.Log, 0x1p1000, 0}, {api.Log, 0x1p-1000, 0}, {api.Log, 2, 1}, {api.Log, 0.5, 1}, {api.Log, 1 + 0x1p-52, 53}, {api.Log, 1 - 0x1p-53, 53},
		{api.Log2, 2, 0}, {api.Log2, 0.5, 0}, {api.Log2, 0x1p-1000, 0}, {api.Log2, 1.5, 1}, {api.Log2, 1 + 0x1p-52, 52},
		{api.Sin, 1, 1}, {api.Sin, -1, 1}, {api.Sin, 0.25, 3}, {api.Sin, 0x1p-100, 101}, {api.Sin, -0x1p-298, 299}, {api.Sin, -0x1p-299, 300}, {api.Sin, math.Pi, 53},
		{api.Cos, 1, 1}, {api.Cos, 2, 2}, {api.Cos, 0x1p-100, 1}, {api.Cos, math.Pi / 2, 54},
	} {
		for _, m := range []int{1, 2, 64, 127, 128} {
			got, code := Look(c.f, bitsOf(c.x), m)
			if q := m + 160 + c.more; got.Ball.Q != q || code != api.OK {
				t.Errorf("%s of %v with m = %d: Q %d, error %d, want Q %d", names()[c.f], c.x, m, got.Ball.Q, code, q)
			}
		}
	}
}

// With q = 300 the ball contains 0: neither m nor the value's own places matter
// then. Numbers of less than 2^-340 are no multiples of a unit inside elem, and
// their balls are wider.
func TestI2CountsAsZero(t *testing.T) {
	for _, m := range []int{1, 128} {
		for _, f := range []int{api.Log, api.Log2} {
			wantLook(t, f, bitsOf(1), m, zeroOf(0, 0))
		}
		wantLook(t, api.Sin, bitsOf(0x1p-300), m, zeroOf(0, 2))
		wantLook(t, api.Sin, bitsOf(-0x1p-300), m, zeroOf(-2, 0))
		for _, x := range []float64{0x1p-301, 0x1.8p-301, 0x1p-320} {
			wantLook(t, api.Sin, bitsOf(x), m, zeroOf(0, 1))
			wantLook(t, api.Sin, bitsOf(-x), m, zeroOf(-1, 0))
		}
		for _, x := range []float64{0x1p-341, 0x1p-400, 0x1p-1022} {
			wantLook(t, api.Sin, bitsOf(x), m, zeroOf(-1, 1))
			wantLook(t, api.Sin, bitsOf(-x), m, zeroOf(-1, 1))
		}
	}
}

// zeroOf is what is found of a value that counts as 0.
func zeroOf(lo, hi int64) finding {
	return finding{ball: small(lo, hi), q: 300, least: new(big.Int), most: new(big.Int), hard: true}
}

// Somewhat above 2^-300 the ball with q = 300 begins at 1. The sine of such a number
// is so near to it that its ball reaches one place to either side.
func TestI2HardlyAboveZero(t *testing.T) {
	for _, x := range []float64{0x1.0001p-300, 0x1.8p-300, 0x1p-299} {
		for _, m := range []int{1, 64, 128} {
			q := m + 460
			middle := new(big.Int).Lsh(whole(int64(math.Ldexp(x, 316))), uint(q-316))
			want := finding{ball: ends{plus(middle, -1), plus(middle, 1)}, q: q, e: -300, s: q - 353, least: new(big.Int), most: whole(1), hard: true}
			wantLook(t, api.Sin, bitsOf(x), m, want)
			want.ball = want.ball.negative()
			wantLook(t, api.Sin, bitsOf(-x), m, want)
		}
	}
}

func TestI2HardUpToItsDistance(t *testing.T) {
	for _, c := range hardest() {
		for _, m := range []int{1, 2, 20, c.t - 1, c.t, c.t + 1, c.t + 2, 128} {
			wantHard(t, c.f, c.b, m, m <= c.t)
		}
	}
}

func wantHard(t *testing.T, f int, b uint64, m int, hard bool) {
	t.Helper()
	if got, code := Look(f, b, m); got.Hard != hard || code != api.OK {
		t.Fatalf("%s of %#x with m = %d: Hard %v, error %d", names()[f], b, m, got.Hard, code)
	}
}

// The value e^x is 1 + x + x^2/2 and so on: for x = 2^-k its ball begins at 1 + x,
// which is 2^(53-k) half units from 1. With m = k - 53 Least is equal to 2^(S-m),
// and must be less.
func TestI2HardIsLessNotEqual(t *testing.T) {
	for k := 110; k <= 181; k++ {
		b, m := bitsOf(math.Ldexp(1, -k)), k-53
		got, code := Look(api.Exp, b, m)
		if code != api.OK || value(got.Least).Cmp(power2(got.S-m)) != 0 || got.Hard {
			t.Fatalf("Exp of 2^-%d with m = %d: %v, %d", k, m, got, code)
		}
		wantHard(t, api.Exp, b, m-1, true)
	}
}

// The value cos x is 1 - x^2/2 + x^4/24 and so on: for x = 2^-k its distance from 1
// is a little below 2^(53-2k), in half units of the numbers below 1.
func TestI2HardJustBelowTheThreshold(t *testing.T) {
	for k := 40; k <= 90; k += 5 {
		b, m := bitsOf(math.Ldexp(1, -k)), 2*k-53
		wantHard(t, api.Cos, b, m, true)
		if m < 128 {
			wantHard(t, api.Cos, b, m+1, false)
		}
	}
}

// A value that is a double has the distance 0 whatever the threshold.
func TestI2ValuesThatAreDoubles(t *testing.T) {
	for _, m := range []int{1, 2, 64, 127, 128} {
		for _, n := range []int{-1023, -1000, -300, -2, -1, 1, 2, 3, 10, 1000, 1023} {
			exact := finding{q: m + 160, k: n, e: n, s: m + 107, least: new(big.Int), most: new(big.Int), hard: true}
			exact.ball = ends{power2(exact.q), power2(exact.q)}
			wantLook(t, api.Exp2, bitsOf(float64(n)), m, exact)
		}
		for _, n := range []int{-1022, -1000, -3, -2, -1, 1, 2, 3, 1000, 1023} {
			log := new(big.Int).Lsh(whole(int64(n)), uint(m+160))
			e := big.NewInt(int64(n)).BitLen() - 1
			exact := finding{ball: ends{log, log}, q: m + 160, e: e, s: m + 107 + e, least: new(big.Int), most: new(big.Int), hard: true}
			wantLook(t, api.Log2, bitsOf(math.Ldexp(1, n)), m, exact)
		}
	}
}

// e^x is beside a midpoint for these: beside 1 + 2^-53, 1 - 2^-54, 1 + 3 times
// 2^-53. Its distance is x^2/2 or so, in half units: a little above 2^-54, a little
// below 2^-55, a little above 9 times 2^-54.
func TestI2ValuesBesideMidpoints(t *testing.T) {
	for _, c := range []struct {
		x float64
		t int
	}{{0x1p-53, 53}, {-0x1p-54, 55}, {0x3p-53, 50}} {
		for _, m := range []int{1, c.t - 1, c.t} {
			wantHard(t, api.Exp, bitsOf(c.x), m, true)
			wantSteps(t, api.Exp, bitsOf(c.x), m)
		}
		for _, m := range []int{c.t + 1, 128} {
			wantHard(t, api.Exp, bitsOf(c.x), m, false)
		}
	}
}

// The patterns that are tried lead to all turns that the steps take.
func TestPatternsTakeEachTurn(t *testing.T) {
	seen := map[string]int{}
	for f := range names() {
		for _, b := range patterns(f) {
			got, _ := Look(f, b, 8)
			seen["hard "+strconv.FormatBool(got.Hard)]++
			seen["negative "+strconv.FormatBool(got.Ball.Hi.Neg)]++
			seen["counts as 0 "+strconv.FormatBool(got.S == 0)]++
			seen["below 1 "+strconv.FormatBool(got.Ball.Q > 168)]++
			seen["on a half "+strconv.FormatBool(len(got.Least.Mag) == 0)]++
		}
	}
	for _, turn := range []string{"hard", "negative", "counts as 0", "below 1", "on a half"} {
		if seen[turn+" true"] == 0 || seen[turn+" false"] == 0 {
			t.Errorf("only one of two: %s", turn)
		}
	}
}

func TestI2ErrorsOfM(t *testing.T) {
	for _, m := range []int{least, least + 1, -160, -128, -1, 0, 129, 130, 140, 256, 640, 641, 1 << 40, greatest - 160, greatest - 1, greatest} {
		for f := -1; f <= 6; f++ {
			for _, x := range []float64{1, 0.5, 3, -1, 0x1p-400, 0, 2000} {
				wantNoLook(t, f, bitsOf(x), m)
			}
		}
	}
	for f := range names() {
		for _, m := range []int{1, 128} {
			wantSteps(t, f, bitsOf(1.25), m)
			wantSteps(t, f, bitsOf(1), m)
		}
	}
}

func TestI2ErrorsOfPatterns(t *testing.T) {
	const unit = 1 << 52
	for f := -1; f <= 6; f++ {
		for _, b := range []uint64{0, 1, 2, unit / 2, unit - 1, 2047 * unit, 2047*unit + 1, 2047*unit + unit/2, 2048*unit - 1} {
			for _, m := range []int{1, 10, 128} {
				wantNoLook(t, f, b, m)
				wantNoLook(t, f, b|sign, m)
			}
		}
	}
	// The first and the last patterns beside them are normal.
	wantSteps(t, api.Log, unit, 10)
	wantSteps(t, api.Log, 2047*unit-1, 10)
	wantSteps(t, api.Sin, unit, 10)
	wantSteps(t, api.Cos, sign+unit, 10)
	wantSteps(t, api.Exp, sign+unit, 10)
}

func TestI2ErrorsOfElem(t *testing.T) {
	for _, f := range []int{least, -6, -1, 6, 7, 256, 1 << 32, greatest} {
		for _, x := range []float64{1, -1, 0.5, 0x1p-1022, 0x1p1023} {
			wantNoLook(t, f, bitsOf(x), 10)
		}
	}
	for _, f := range []int{api.Log, api.Log2} {
		for _, x := range []float64{-1, -0.5, -0x1p-1022, -0x1p1023, -1.5, -math.MaxFloat64} {
			wantNoLook(t, f, bitsOf(x), 10)
		}
	}
	for _, f := range []int{api.Exp, api.Exp2, api.Sin, api.Cos} {
		for _, x := range []float64{1024, 1025, 0x1p11, 0x1p1000, math.MaxFloat64} {
			wantNoLook(t, f, bitsOf(x), 10)
			wantNoLook(t, f, bitsOf(-x), 10)
		}
		wantSteps(t, f, bitsOf(1024)-1, 10)
		wantSteps(t, f, bitsOf(-1024)-1, 10)
	}
}
