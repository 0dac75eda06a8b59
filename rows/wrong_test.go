package rows

import (
	"math/big"
	"testing"

	"hairline/api"
)

// T at its bound is accepted, one place above it is not.
func TestBoundOfEachFunction(t *testing.T) {
	for _, f := range functions() {
		for _, q := range []int{0, 1, 2, 31, 62, 63, 64, 65, 127, 128, 1199, 1200} {
			top := bound(f.halves, q)
			low, high := f.rule(top, q, 5)
			f.want(t, top, q, 5, low, high)
			above := integer(new(big.Int).Add(top, big.NewInt(1)))
			f.wantError(t, above, q, 5)
			f.wantError(t, long(above), q, 5)
		}
	}
	for _, c := range []struct {
		f     int
		t     int64
		q     int
		right bool
	}{
		{0, 1, 0, true}, {0, 2, 0, false}, {0, 2, 1, true}, {0, 3, 1, false}, {0, 16, 4, true}, {0, 17, 4, false},
		{1, 0, 0, true}, {1, 1, 0, false}, {1, 1, 1, true}, {1, 2, 1, false}, {1, 8, 4, true}, {1, 9, 4, false},
		{2, 0, 0, true}, {2, 1, 0, false}, {2, 1, 1, true}, {2, 2, 1, false}, {2, 8, 4, true}, {2, 9, 4, false},
		{3, 2, 0, true}, {3, 3, 0, false}, {3, 4, 1, true}, {3, 5, 1, false}, {3, 32, 4, true}, {3, 33, 4, false},
		{4, 2, 0, true}, {4, 3, 0, false}, {4, 4, 1, true}, {4, 5, 1, false}, {4, 32, 4, true}, {4, 33, 4, false},
	} {
		f := functions()[c.f]
		if _, _, code := f.call(whole(c.t), c.q, 3); (code == api.OK) != c.right {
			t.Errorf("%s of %d at %d: error %d", f.name, c.t, c.q, code)
		}
	}
}

func TestRangesOfQAndN(t *testing.T) {
	for _, f := range functions() {
		for _, x := range []int64{0, 1} {
			for _, q := range []int{1, 2, 1199, 1200} {
				for _, n := range []int{1, 2, 399, 400} {
					low, high := f.rule(big.NewInt(x), q, n)
					f.want(t, big.NewInt(x), q, n, low, high)
				}
				for _, n := range wrongN() {
					f.wantError(t, whole(x), q, n)
				}
			}
			for _, q := range wrongQ() {
				for _, n := range append(wrongN(), 1, 5, 400) {
					f.wantError(t, whole(x), q, n)
				}
			}
		}
		low, high := f.rule(new(big.Int), 0, 400)
		f.want(t, new(big.Int), 0, 400, low, high)
	}
}

func TestWrongT(t *testing.T) {
	for _, f := range functions() {
		for _, q := range []int{0, 1, 63, 64, 300, 1200} {
			top := bound(f.halves, q)
			for _, x := range []*big.Int{big.NewInt(-1), big.NewInt(-2), new(big.Int).Neg(power(q)), new(big.Int).Sub(big.NewInt(-1), top), power(q + 2), power(q + 64), power(9000), new(big.Int).Neg(power(9000))} {
				for _, n := range []int{1, 7, 400} {
					f.wantError(t, integer(x), q, n)
					f.wantError(t, long(integer(x)), q, n)
				}
			}
			// Only the top limb shows that this is too great, or not 0.
			f.wantError(t, api.Int{Mag: append(make([]uint64, 500), 1, 0)}, q, 3)
			f.wantError(t, api.Int{Neg: true, Mag: append(make([]uint64, 500), 1, 0)}, q, 3)
		}
		// Wrong in all ways at once.
		f.wantError(t, whole(-1), -1, 0)
		f.wantError(t, integer(power(9000)), 1201, 401)
	}
}
