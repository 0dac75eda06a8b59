package point

import (
	"math/big"
	"testing"

	"hairline/api"
)

func wantGap(t *testing.T, b ends, q, s int, lowest, highest *big.Int) {
	t.Helper()
	for _, form := range b.forms(q) {
		least, most, code := Gap(form, s)
		if code != api.OK {
			t.Fatalf("Gap of %d to %d with s = %d: error %d", b.lo, b.hi, s, code)
		}
		wantInteger(t, "the smallest distance for "+b.lo.String()+" to "+b.hi.String(), least, lowest)
		wantInteger(t, "the greatest distance for "+b.lo.String()+" to "+b.hi.String(), most, highest)
	}
}

func wantNoGap(t *testing.T, b api.Ball, s int) {
	t.Helper()
	least, most, code := Gap(b, s)
	if code != api.ErrArg || len(least.Mag)+len(most.Mag) > 0 || least.Neg || most.Neg {
		t.Fatalf("Gap of %v with s = %d: %v, %v, error %d, want 0, 0, error 1", b, s, least, most, code)
	}
}

func TestI1GapSamples(t *testing.T) {
	for _, c := range []struct {
		lo, hi      int64
		s           int
		least, most int64
	}{
		{13, 21, 3, 0, 4},                                                          // both a multiple and a middle
		{13, 17, 3, 0, 3}, {16, 16, 3, 0, 0}, {15, 16, 3, 0, 1}, {16, 19, 3, 0, 3}, // a multiple
		{11, 14, 3, 2, 4}, {12, 12, 3, 4, 4}, {12, 15, 3, 1, 4}, {9, 12, 3, 1, 4}, // a middle
		{9, 11, 3, 1, 3}, {13, 15, 3, 1, 3}, {11, 11, 3, 3, 3}, {13, 14, 3, 2, 3}, // neither
		{-21, -13, 3, 0, 4}, {-11, -9, 3, 1, 3}, {-15, -13, 3, 1, 3}, {-12, -12, 3, 4, 4}, {-14, -11, 3, 2, 4}, {-3, -2, 3, 2, 3},
		{-1, 1, 3, 0, 1}, {-4, 1, 3, 0, 4}, {0, 0, 3, 0, 0}, {-3, 0, 3, 0, 3}, {0, 7, 3, 0, 4},
		{5, 5, 0, 0, 0}, {-7, 900, 0, 0, 0}, {0, 0, 0, 0, 0}, {5, 5, 1, 1, 1}, {4, 4, 1, 0, 0}, {4, 5, 1, 0, 1}, {-5, -5, 1, 1, 1},
		{1, 1, 62, 1, 1}, {1, 5, 62, 1, 5}, {-5, -1, 62, 1, 5}, {1<<62 - 3, 1<<62 - 1, 62, 1, 3},
	} {
		for _, q := range []int{0, 1, 3, 300, 2048} {
			wantGap(t, small(c.lo, c.hi), q, c.s, whole(c.least), whole(c.most))
		}
	}
}

// All integers of the ball are tried one by one.
func TestI1GapOfEachInteger(t *testing.T) {
	for s := range 6 {
		step := int64(1) << s
		for lo := int64(-40); lo <= 40; lo++ {
			nearest, farthest := step, int64(0)
			for hi := lo; hi <= 40; hi++ {
				rest := (hi + 64*step) % step
				distance := min(rest, step-rest)
				nearest, farthest = min(nearest, distance), max(farthest, distance)
				wantGap(t, small(lo, hi), 9, s, whole(nearest), whole(farthest))
			}
		}
	}
}

// distances are those that Gap returns, by another way than the program's.
func distances(b ends, s int) (*big.Int, *big.Int) {
	step, middle := power2(s), new(big.Int).Rsh(power2(s), 1)
	// reaches tells whether b has a number that leaves rest when divided by step.
	reaches := func(rest *big.Int) bool {
		way := new(big.Int).Sub(rest, b.lo)
		return way.Mod(way, step).Cmp(new(big.Int).Sub(b.hi, b.lo)) <= 0
	}
	distance := func(x *big.Int) *big.Int {
		after := new(big.Int).Mod(x, step)
		if before := new(big.Int).Sub(step, after); before.Cmp(after) < 0 {
			return before
		}
		return after
	}
	lowest, highest := distance(b.lo), distance(b.hi)
	if lowest.Cmp(highest) > 0 {
		lowest, highest = highest, lowest
	}
	if reaches(new(big.Int)) {
		lowest = new(big.Int)
	}
	if s > 0 && reaches(middle) {
		highest = middle
	}
	return lowest, highest
}

func wantDistances(t *testing.T, b ends, q, s int) {
	t.Helper()
	lowest, highest := distances(b, s)
	wantGap(t, b, q, s, lowest, highest)
	// The negative of a ball has the same distances.
	wantGap(t, b.negative(), q, s, lowest, highest)
}

// Balls whose ends lie beside multiples of 2^s, or beside middles.
func TestI1GapBesideMultiplesAndMiddles(t *testing.T) {
	for _, s := range []int{0, 1, 2, 62, 63, 64, 65, 127, 128, 129, 300, 2000, 2047, 2048} {
		half := new(big.Int).Rsh(power2(s), 1)
		for _, n := range []int64{-5, -2, -1, 0, 1, 2, 7} {
			base := new(big.Int).Mul(half, whole(n))
			for from := int64(-2); from <= 2; from++ {
				lo := plus(base, from)
				for _, by := range []int64{0, 1, 2, 3} {
					wantDistances(t, ends{lo, plus(lo, by)}, 300, s)
					for _, halves := range []int64{1, 2, 3} {
						far := new(big.Int).Mul(half, whole(halves))
						if hi := plus(far.Add(far, lo), by-2); hi.Cmp(lo) >= 0 {
							wantDistances(t, ends{lo, hi}, 0, s)
						}
					}
				}
			}
		}
	}
}

func TestI1GapOfMixedBalls(t *testing.T) {
	r := source(88172645463325252)
	for i := range 3000 {
		s := r.upTo(0, 200)
		if i%10 == 0 {
			s = r.upTo(0, 2048)
		}
		lo, size := r.wide(s+80), new(big.Int).Abs(r.wide(s+4))
		wantDistances(t, ends{lo, size.Add(size, lo)}, r.upTo(0, 2048), s)
	}
}

func TestI1GapErrors(t *testing.T) {
	right, wrong := small(13, 21), small(21, 13)
	for _, form := range right.forms(3) {
		for _, s := range wrongQ() {
			wantNoGap(t, form, s)
		}
	}
	for _, s := range []int{-1, 0, 3, 2048, 2049} {
		for _, q := range wrongQ() {
			for _, form := range append(right.forms(q), small(0, 0).forms(q)...) {
				wantNoGap(t, form, s)
			}
		}
		for _, form := range append(wrong.forms(3), small(-1, -2).forms(0)...) {
			wantNoGap(t, form, s)
		}
	}
	wantGap(t, right, 0, 0, whole(0), whole(0))
	wantGap(t, right, 2048, 2048, whole(13), whole(21))
	wantGap(t, right, 2048, 2047, whole(13), whole(21))
}
