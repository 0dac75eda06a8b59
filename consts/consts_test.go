package consts

import (
	"math/big"
	"testing"

	"hairline/api"
	"hairline/ball"
)

// sample is a ball that was computed without the program.
type sample struct {
	q      int
	lo, hi int64
}

func (f function) wantSamples(t *testing.T, all []sample) {
	t.Helper()
	for _, c := range all {
		wantBall(t, f.name, f.at(t, c.q), big.NewInt(c.lo), big.NewInt(c.hi), c.q)
	}
}

func TestG1Ln2Samples(t *testing.T) {
	functions()[0].wantSamples(t, []sample{
		{8, 177, 178}, // the chapter's
		{0, 0, 1}, {1, 1, 2}, {2, 2, 3}, {3, 5, 6}, {4, 11, 12}, {10, 709, 710}, {16, 45426, 45427},
		{32, 2977044471, 2977044472},
		{60, 799144290325165978, 799144290325165979},
	})
}

func TestG1PiSamples(t *testing.T) {
	functions()[1].wantSamples(t, []sample{
		{8, 804, 805}, // the chapter's
		{0, 3, 4}, {1, 6, 7}, {2, 12, 13}, {3, 25, 26}, {4, 50, 51}, {10, 3216, 3217}, {16, 205887, 205888},
		{32, 13493037704, 13493037705},
		{60, 3622009729038561421, 3622009729038561422},
	})
}

// The balls before they are passed to Recast: their ends still show how many
// terms were summed up, and where the parts were rounded to.
func TestG1FineSamples(t *testing.T) {
	for i, samples := range [][]sample{
		{{16, 45422, 45440}, {17, 90846, 90864}, {20, 726812, 726832}, {24, 11629072, 11629096}, {60, 799144290325165962, 799144290325166010}},
		{{16, 205832, 205972}, {17, 411712, 411852}, {20, 3294128, 3294308}, {24, 52707080, 52707260}, {60, 3622009729038561276, 3622009729038561616}},
	} {
		f := functions()[i]
		for _, c := range samples {
			wantBall(t, f.name, f.fine(c.q), big.NewInt(c.lo), big.NewInt(c.hi), c.q)
		}
	}
}

// G1 and the consequences, for every q that is right.
func TestG1AllQ(t *testing.T) {
	for _, f := range functions() {
		t.Run(f.name, func(t *testing.T) {
			t.Parallel()
			var all []api.Ball
			for q := range 901 {
				all = append(all, f.at(t, q))
			}
			f.wantChapterBalls(t, all)
			f.wantNumberInside(t, all)
			f.wantCommonNumber(t, all)
			f.wantMeetings(t, all)
		})
	}
}

// wantChapterBalls looks whether each ball is exactly the one that the chapter's
// steps describe.
func (f function) wantChapterBalls(t *testing.T, all []api.Ball) {
	t.Helper()
	for q, b := range all {
		lo, hi := f.rule(q + 16)
		lo, hi = ruleRecast(lo, hi, q+16, q)
		wantBall(t, f.name, b, lo, hi, q)
	}
}

// wantNumberInside looks whether each ball contains the number, with the whole
// error of the other series.
func (f function) wantNumberInside(t *testing.T, all []api.Ball) {
	t.Helper()
	exact := f.exact()
	below, above := new(big.Int).Sub(exact, power(slack)), new(big.Int).Add(exact, power(slack))
	for q, b := range all {
		lo, hi := value(b.Lo), value(b.Hi)
		if lo.Lsh(lo, uint(exactQ-q)).Cmp(below) > 0 || hi.Lsh(hi, uint(exactQ-q)).Cmp(above) < 0 {
			t.Fatalf("%s of %d: %d to %d does not contain it", f.name, q, value(b.Lo), value(b.Hi))
		}
	}
}

// wantCommonNumber looks for a number that is in all balls: then no two of them
// lie apart.
func (f function) wantCommonNumber(t *testing.T, all []api.Ball) {
	t.Helper()
	var greatestLow, leastHigh *big.Int
	for q, b := range all {
		lo, hi := value(b.Lo), value(b.Hi)
		lo.Lsh(lo, uint(900-q))
		hi.Lsh(hi, uint(900-q))
		if greatestLow == nil || lo.Cmp(greatestLow) > 0 {
			greatestLow = lo
		}
		if leastHigh == nil || hi.Cmp(leastHigh) < 0 {
			leastHigh = hi
		}
	}
	if greatestLow.Cmp(leastHigh) > 0 {
		t.Errorf("%s: nothing is in all balls", f.name)
	}
}

func (f function) wantMeetings(t *testing.T, all []api.Ball) {
	t.Helper()
	qs := []int{0, 1, 2, 8, 63, 64, 65, 188, 300, 749, 899, 900}
	for _, p := range qs {
		for _, q := range qs {
			if !ball.Meets(all[p], all[q]) {
				t.Errorf("%s of %d and of %d have no common number", f.name, p, q)
			}
		}
	}
}

// G1: at w as well, each ball is exactly the one that the chapter's steps
// describe.
func TestG1FineFollowsTheChapter(t *testing.T) {
	for _, f := range functions() {
		for w := 16; w <= 916; w += 12 {
			lo, hi := f.rule(w)
			wantBall(t, f.name+" at w", f.fine(w), lo, hi, w)
		}
	}
}

// The ball is what the steps say, not the smallest one: where the ends at w lie
// on both sides of a number at q, it is two places wide.
func TestG1NotAlwaysTheSmallest(t *testing.T) {
	for i, all := range [][]int{{749}, {188, 300, 386, 450, 896}} {
		f := functions()[i]
		for _, q := range all {
			b := f.at(t, q)
			if width := new(big.Int).Sub(value(b.Hi), value(b.Lo)); width.Cmp(big.NewInt(2)) != 0 {
				t.Errorf("%s of %d: %d places wide", f.name, q, width)
			}
		}
	}
}

func TestG1RangeOfQ(t *testing.T) {
	for _, f := range functions() {
		for _, q := range []int{0, 1, 899, 900} {
			lo, hi := f.rule(q + 16)
			lo, hi = ruleRecast(lo, hi, q+16, q)
			wantBall(t, f.name, f.at(t, q), lo, hi, q)
		}
		for _, q := range wrongQ() {
			f.wantError(t, q)
		}
	}
}

// The other series give the well-known decimal places.
func TestExactNumbers(t *testing.T) {
	ten50 := new(big.Int).Exp(big.NewInt(10), big.NewInt(50), nil)
	for i, digits := range []string{
		"69314718055994530941723212145817656807550013436025",
		"314159265358979323846264338327950288419716939937510",
	} {
		f := functions()[i]
		got := new(big.Int).Mul(f.exact(), ten50)
		if got = down(got, power(exactQ)); got.String() != digits {
			t.Errorf("%s is %s, want %s", f.name, got, digits)
		}
	}
}
