package elem

import (
	"math/big"
	"testing"

	"hairline/api"
)

func TestF(t *testing.T) {
	for f := range 6 {
		at(t, f, small(1, 0), 8)
	}
	for _, f := range wrongF() {
		for _, x := range []dyadic{small(0, 0), small(1, 0), small(-1, 0), small(1, -1201), small(1, 5000)} {
			for _, q := range append(wrongQ(), 0, 8, 800) {
				wantError(t, f, x.argument(), q)
			}
		}
	}
}

func TestRangeOfQ(t *testing.T) {
	for f := range names() {
		for _, q := range []int{0, 1, 799, 800} {
			x := small(3, -1)
			b, k := placeAt(q+40).steps(f, x)
			b = b.recast(q+40, q)
			wantAt(t, f, x, q, b.lo, b.hi, k)
		}
		for _, q := range wrongQ() {
			for _, x := range []dyadic{small(0, 0), small(1, 0), small(3, -1), small(-3, -1), small(1, 5000)} {
				wantError(t, f, x.argument(), q)
			}
		}
	}
}

// ones is a number with the given E and Log: 2^(log+1) less 2^e.
func ones(e, log int) dyadic {
	m := power(log + 1 - e)
	return dyadic{m.Sub(m, big.NewInt(1)), e}
}

// wantRight looks whether all forms of x are accepted, and with the same result.
func wantRight(t *testing.T, f int, x dyadic, q int) {
	t.Helper()
	b, k := placeAt(q+40).steps(f, x)
	b = b.recast(q+40, q)
	wantAt(t, f, x, q, b.lo, b.hi, k)
}

func wantWrong(t *testing.T, f int, x dyadic) {
	t.Helper()
	for _, form := range x.forms() {
		for _, q := range []int{0, 8, 800} {
			wantError(t, f, form, q)
		}
	}
}

// The E in normal form counts: an even M may have an E that is less, or such an M
// may hide one that is not.
func TestRangeOfE(t *testing.T) {
	for f := range names() {
		for _, q := range []int{0, 8} {
			for _, log := range []int{9, 0, -1, -1100} {
				wantRight(t, f, ones(-1200, log), q)
				wantRight(t, f, ones(-1199, log), q)
				wantWrong(t, f, ones(-1201, log))
				wantWrong(t, f, ones(-1202, log))
				wantWrong(t, f, ones(-3800, log))
			}
		}
		wantRight(t, f, dyadic{new(big.Int).Add(power(301), power(101)), -1301}, 8)
		wantWrong(t, f, dyadic{new(big.Int).Add(power(301), power(100)), -1301})
		wantRight(t, f, dyadic{power(3000), -4000}, 8)
		wantRight(t, f, dyadic{power(4000), -4000}, 8)
		wantWrong(t, f, dyadic{new(big.Int).Add(power(4000), big.NewInt(1)), -4000})
		wantWrong(t, f, dyadic{new(big.Int).Add(power(3000), power(2799)), -4000})
		wantRight(t, f, dyadic{new(big.Int).Add(power(3000), power(2800)), -4000}, 8)
	}
	for _, f := range []int{api.Exp, api.Exp2, api.Sin, api.Cos} {
		for _, m := range []int64{1, -1} {
			wantRight(t, f, small(m, -1200), 8)
			wantRight(t, f, small(2*m, -1201), 8)
			wantRight(t, f, small(64*m, -1206), 8)
			wantWrong(t, f, small(m, -1201))
			wantWrong(t, f, small(2*m, -1202))
			wantWrong(t, f, small(64*m, -1207))
			wantWrong(t, f, small(m, -3800))
		}
	}
}

func TestRangeOfLogarithms(t *testing.T) {
	for _, f := range []int{api.Log, api.Log2} {
		for _, q := range []int{0, 8, 800} {
			for _, x := range []dyadic{small(1, -1100), small(1, 1100), ones(-1200, -1100), ones(-1100, 1100), ones(1100, 1100), ones(-1200, 1100)} {
				wantRight(t, f, x, q)
				wantWrong(t, f, x.negative())
			}
		}
		for _, x := range []dyadic{
			small(1, -1101), ones(-1200, -1101), small(1, -1200), small(1, 1101), ones(1, 1101), small(1, 1102), small(1, 3999), small(1, 4000),
			ones(4000, 4060), ones(0, 8500), ones(1100, 1101), small(1, -3800), small(-1, 0), small(-1, -2), small(-3, -1), small(-1, -1200), small(-1, 1100), small(-1, 3000),
		} {
			wantWrong(t, f, x)
		}
		for _, x := range zeros() {
			wantError(t, f, x, 8)
		}
	}
}

func TestRangeOfTheOthers(t *testing.T) {
	for _, f := range []int{api.Exp, api.Exp2, api.Sin, api.Cos} {
		for _, x := range []dyadic{small(1, 9), small(1023, 0), ones(-1200, 9), ones(-52, 9), ones(-1, 9), small(511, 0)} {
			wantRight(t, f, x, 8)
			wantRight(t, f, x.negative(), 8)
		}
		for _, x := range []dyadic{small(1, 10), small(1025, 0), ones(-40, 10), small(1, 11), small(1, 1100), small(1, 3999), small(1, 4000), ones(4000, 4060), ones(0, 8500)} {
			wantWrong(t, f, x)
			wantWrong(t, f, x.negative())
		}
	}
}

// A dyad that counts as 0 is 0 here as well.
func TestZeros(t *testing.T) {
	for i, x := range zeros() {
		for _, q := range []int{0, 8, 90 + 90*(i%8)} {
			for f, want := range map[int]*big.Int{api.Exp: power(q), api.Exp2: power(q), api.Sin: new(big.Int), api.Cos: power(q)} {
				got, k, code := At(f, x, q)
				if code != api.OK || k != 0 {
					t.Fatalf("%s of %v at %d: K %d, error %d", names()[f], x, q, k, code)
				}
				wantBall(t, names()[f]+" of 0", got, want, want, q)
			}
		}
	}
}

// An even M whose E counts, but that has an E in normal form which does not: it is
// a great number, not 0.
func TestNormalFormBeyondTheRangeOfE(t *testing.T) {
	for f := range names() {
		for _, m := range []int64{2, -2, 6, 1 << 40} {
			wantError(t, f, small(m, 4000).argument(), 8)
			wantError(t, f, small(m, 3999).argument(), 8)
		}
		wantError(t, f, dyadic{power(9000), 4000}.argument(), 8)
		wantError(t, f, dyadic{power(9000), -4000}.argument(), 8)
	}
}
