package point

import (
	"math/big"
	"testing"

	"hairline/api"
	"hairline/elem"
)

// finding is what Look finds of a value.
type finding struct {
	ball        ends
	q, k, e, s  int
	least, most *big.Int
	hard        bool
}

// ballAt is a ball and its K that are given for a q.
type ballAt func(q int) (ends, int)

// scale is the chapter's Scale of a ball without 0, by another way than the
// program's.
func scale(b ends, q int) int {
	near := b.lo
	if b.hi.Sign() < 0 {
		near = b.hi
	}
	n := 0
	for power2(n+1).CmpAbs(near) <= 0 {
		n++
	}
	return n - q
}

// steps are those that the chapter describes, one by one, taken with the balls
// that are given.
func steps(at ballAt, m int) finding {
	rough, k := at(300)
	if rough.hasZero() {
		return finding{ball: rough, q: 300, k: k, least: new(big.Int), most: new(big.Int), hard: true}
	}
	q := m + 160
	if n := scale(rough, 300); n < 0 {
		q -= n
	}
	b, k := at(q)
	r := scale(b, q)
	out := finding{ball: b, q: q, k: k, e: r + k, s: q - 53 + r}
	if b.hi.Sign() < 0 {
		b = b.negative()
	}
	out.least, out.most = distances(b, out.s)
	out.hard = out.least.Cmp(power2(out.s-m)) < 0
	return out
}

// valueOf is the value of a normal pattern.
func valueOf(b uint64) (*big.Int, int) {
	m := new(big.Int).SetUint64(b&(1<<52-1) + 1<<52)
	if b >= sign {
		m.Neg(m)
	}
	return m, int(b>>52&2047) - 1075
}

// elemBalls are those of chapter 8.
func elemBalls(t *testing.T, f int, b uint64) ballAt {
	t.Helper()
	m, e := valueOf(b)
	return func(q int) (ends, int) {
		got, k, code := elem.At(f, api.Dyad{M: integer(m), E: e}, q)
		if code != api.OK {
			t.Fatalf("%s of %#x at %d: error %d", names()[f], b, q, code)
		}
		return ends{value(got.Lo), value(got.Hi)}, k
	}
}

func wantLook(t *testing.T, f int, b uint64, m int, want finding) {
	t.Helper()
	got, code := Look(f, b, m)
	if code != api.OK || got.Hard != want.hard || got.Ball.Q != want.q || got.K != want.k || got.E != want.e || got.S != want.s {
		t.Fatalf("%s of %#x with m = %d: Hard %v, Q %d, K %d, E %d, S %d, error %d, want %v, %d, %d, %d, %d",
			names()[f], b, m, got.Hard, got.Ball.Q, got.K, got.E, got.S, code, want.hard, want.q, want.k, want.e, want.s)
	}
	wantInteger(t, "Lo for "+names()[f], got.Ball.Lo, want.ball.lo)
	wantInteger(t, "Hi for "+names()[f], got.Ball.Hi, want.ball.hi)
	wantInteger(t, "Least for "+names()[f], got.Least, want.least)
	wantInteger(t, "Most for "+names()[f], got.Most, want.most)
}

func wantNoLook(t *testing.T, f int, b uint64, m int) {
	t.Helper()
	got, code := Look(f, b, m)
	limbs := len(got.Ball.Lo.Mag) + len(got.Ball.Hi.Mag) + len(got.Least.Mag) + len(got.Most.Mag)
	signs := got.Ball.Lo.Neg || got.Ball.Hi.Neg || got.Least.Neg || got.Most.Neg
	if code != api.ErrArg || limbs > 0 || signs || got.Ball.Q != 0 || got.K != 0 || got.E != 0 || got.S != 0 || got.Hard {
		t.Fatalf("function %d of %#x with m = %d: %v, error %d, want the zero Look, error 1", f, b, m, got, code)
	}
}

// wantSteps looks whether the chapter's steps lead to what Look returns.
func wantSteps(t *testing.T, f int, b uint64, m int) finding {
	t.Helper()
	want := steps(elemBalls(t, f, b), m)
	wantLook(t, f, b, m, want)
	return want
}
