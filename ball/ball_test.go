package ball

import (
	"math/big"
	"testing"

	"hairline/api"
)

func TestE1Right(t *testing.T) {
	for _, b := range validBalls() {
		if !Right(b) {
			t.Errorf("%v is not valid", b)
		}
	}
	for _, b := range wrongBalls() {
		if Right(b) {
			t.Errorf("%v is valid", b)
		}
	}
	if !Right(api.Ball{}) {
		t.Error("the zero ball is not valid")
	}
}

func TestE1RightAtTheEdges(t *testing.T) {
	for _, c := range []struct {
		lo, hi int64
		q      int
		want   bool
	}{
		{0, 0, 0, true}, {5, 5, 7, true}, {-5, -5, 7, true}, {-5, -4, 7, true}, {-4, -5, 7, false}, {5, 4, 7, false}, {-1, 1, 0, true}, {1, -1, 0, false},
		{1, 2, -1, false}, {1, 2, 0, true}, {1, 2, 2047, true}, {1, 2, 2048, true}, {1, 2, 2049, false}, {2, 1, 2048, false}, {2, 1, 2049, false},
		{1, 2, least, false}, {1, 2, greatest, false},
	} {
		for _, b := range forms(small(c.lo, c.hi, c.q)) {
			if got := Right(b); got != c.want {
				t.Errorf("Right of %v: %v", b, got)
			}
		}
	}
}

func TestE1PointAtTheEdges(t *testing.T) {
	for _, c := range []struct {
		m      int64
		e, q   int
		lo, hi int64
	}{
		{3, -2, 1, 1, 2}, {-3, -2, 1, -2, -1}, {3, -2, 2, 3, 3}, {3, -2, 0, 0, 1}, {-3, -2, 0, -1, 0}, {3, 0, 0, 3, 3}, {5, -1, 2, 10, 10}, {0, 0, 2048, 0, 0},
		{1, -4000, 0, 0, 1}, {-1, -4000, 2048, -1, 0}, {1, -2048, 2048, 1, 1}, {1, -2049, 2048, 0, 1}, {3, -2048, 2047, 1, 2}, {6, -2049, 2048, 3, 3},
		{7, 4001, 3, 0, 0}, {-7, -4001, 2048, 0, 0}, {7, greatest, 3, 0, 0}, {-7, least, 3, 0, 0},
	} {
		for _, m := range []api.Int{whole(c.m), long(whole(c.m))} {
			got, code := Point(api.Dyad{M: m, E: c.e}, c.q)
			wantSmall(t, "Point", got, code, c.lo, c.hi, c.q)
		}
	}
	got, code := Point(api.Dyad{M: whole(-1), E: 4000}, 2048)
	far := new(big.Int).Lsh(big.NewInt(-1), 6048)
	wantBall(t, "-2^4000 at 2048", got, code, far, far, 2048)
	// In normal form this has an E that counts as 0; it is given one that does not.
	got, code = Point(api.Dyad{M: whole(8), E: 4000}, 0)
	far = new(big.Int).Lsh(big.NewInt(1), 4003)
	wantBall(t, "8 times 2^4000", got, code, far, far, 0)
}

func TestE1Point(t *testing.T) {
	for _, d := range dyads() {
		x := counted(d)
		for _, q := range []int{0, 1, 2, 64, 300, 2047, 2048} {
			got, code := Point(d, q)
			wantBall(t, "Point", got, code, floor(x, q), ceil(x, q), q)
		}
		for _, q := range wrongQ() {
			got, code := Point(d, q)
			wantError(t, "Point at a wrong q", got, code, api.ErrArg)
		}
	}
}

func TestE1RecastAtTheEdges(t *testing.T) {
	for _, c := range []struct {
		lo, hi   int64
		from, to int
		low, top int64
	}{
		{-3, 5, 2, 0, -1, 2}, {-4, 4, 2, 0, -1, 1}, {-5, -3, 2, 0, -2, 0}, {3, 5, 2, 0, 0, 2}, {3, 3, 2, 1, 1, 2}, {-3, -3, 2, 1, -2, -1}, {0, 0, 2, 0, 0, 0},
		{-3, 5, 0, 2, -12, 20}, {-3, 5, 2, 2, -3, 5}, {7, 7, 2048, 0, 0, 1}, {-7, -7, 2048, 0, -1, 0}, {7, 9, 2048, 2045, 0, 2}, {7, 8, 2047, 2048, 14, 16},
	} {
		for _, b := range forms(small(c.lo, c.hi, c.from)) {
			got, code := Recast(b, c.to)
			wantSmall(t, "Recast", got, code, c.low, c.top, c.to)
		}
	}
	got, code := Recast(small(-1, 3, 0), 2048)
	wantBall(t, "Recast from 0 to MaxQ", got, code, new(big.Int).Lsh(big.NewInt(-1), 2048), new(big.Int).Lsh(big.NewInt(3), 2048), 2048)
}

func TestE1Recast(t *testing.T) {
	for _, b := range validBalls() {
		lo, hi := ends(b)
		for _, q := range []int{0, 1, 2, 64, 65, 2000, 2047, 2048} {
			got, code := Recast(b, q)
			wantBall(t, "Recast", got, code, floor(lo, q), ceil(hi, q), q)
		}
		for _, q := range wrongQ() {
			got, code := Recast(b, q)
			wantError(t, "Recast to a wrong q", got, code, api.ErrArg)
		}
	}
	for _, b := range wrongBalls() {
		for _, q := range []int{-1, 0, 64, 2048, 2049, b.Q} {
			got, code := Recast(b, q)
			wantError(t, "Recast of a wrong ball", got, code, api.ErrArg)
		}
	}
}

// dyads are of all kinds of E, even and odd, and some of them count as 0.
func dyads() []api.Dyad {
	var out []api.Dyad
	s := source(97)
	for _, e := range []int{least, -4001, -4000, -3999, -2049, -2048, -2047, -65, -64, -2, -1, 0, 1, 64, 3999, 4000, 4001, greatest} {
		for _, m := range []int64{-8, -3, -1, 0, 1, 3, 8} {
			out = append(out, api.Dyad{M: whole(m), E: e}, api.Dyad{M: long(whole(m)), E: e})
		}
		out = append(out, api.Dyad{M: integer(s.integer()), E: e})
	}
	return out
}
