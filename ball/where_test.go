package ball

import (
	"math/big"
	"testing"

	"hairline/api"
)

func TestE3HasAtTheEdges(t *testing.T) {
	for _, c := range []struct {
		lo, hi int64
		q      int
		m      int64
		e      int
		want   bool
	}{
		{1, 2, 1, 3, -2, true}, {1, 2, 1, 1, -1, true}, {1, 2, 1, 1, 0, true}, {1, 2, 1, 2, -1, true}, {1, 2, 1, 0, 0, false}, {1, 2, 1, 3, -1, false}, {1, 2, 1, -1, -1, false},
		{-2, -1, 3, -3, -4, true}, {-2, -1, 3, -1, -2, true}, {-2, -1, 3, -1, -3, true}, {-2, -1, 3, -5, -4, false}, {-2, -1, 3, -1, -4, false}, {-2, -1, 3, 1, -3, false},
		{0, 0, 0, 0, 0, true}, {0, 0, 2048, 1, -4000, false}, {0, 0, 2048, -1, -4000, false}, {0, 1, 2048, 1, -4000, true}, {-1, 0, 2048, -1, -4000, true}, {0, 1, 0, 1, 4000, false}, {-1, 0, 0, -1, 4000, false},
		{5, 5, 2048, 5, -2048, true}, {5, 5, 2048, 11, -2049, false}, {5, 5, 2048, 9, -2049, false}, {5, 5, 2048, 10, -2049, true}, {5, 5, 0, 5, 0, true}, {5, 5, 0, 4, 0, false}, {5, 5, 0, 6, 0, false},
		{-1, 1, 7, 9, 4001, true}, {-1, 1, 7, -9, -4001, true}, {0, 1, 7, 9, greatest, true}, {-1, 0, 7, 9, least, true}, {1, 2, 0, 1, 4001, false}, {1, 2, 0, 1, least, false}, {-2, -1, 0, -1, -4001, false}, {-2, -1, 0, -1, greatest, false},
		{2, 1, 0, 1, 0, false}, {1, 0, 0, 1, 0, false}, {0, 2, -1, 1, 0, false}, {0, 2, 2049, 0, 0, false}, {0, 2, greatest, 0, 0, false}, {-2, 2, least, 0, 0, false},
	} {
		for _, b := range forms(small(c.lo, c.hi, c.q)) {
			for _, m := range []api.Int{whole(c.m), long(whole(c.m))} {
				if got := Has(b, api.Dyad{M: m, E: c.e}); got != c.want {
					t.Errorf("Has of %v and %d times 2^%d: %v", b, c.m, c.e, got)
				}
			}
		}
	}
}

// around are the dyads at the ends of a ball, and one place of Q, or a far
// smaller one, inside and outside.
func around(b api.Ball) []api.Dyad {
	var out []api.Dyad
	for _, end := range []api.Int{b.Lo, b.Hi} {
		for by := int64(-1); by <= 1; by++ {
			place := new(big.Int).Add(value(end), big.NewInt(by))
			out = append(out, api.Dyad{M: integer(place), E: -b.Q})
			fine := new(big.Int).Lsh(value(end), uint(4000-b.Q))
			out = append(out, api.Dyad{M: integer(fine.Add(fine, big.NewInt(by))), E: -4000})
		}
	}
	return out
}

func TestE3Has(t *testing.T) {
	for _, b := range validBalls() {
		lo, hi := ends(b)
		for _, d := range append(around(b), dyads()...) {
			x := counted(d)
			if got, want := Has(b, d), lo.Cmp(x) <= 0 && x.Cmp(hi) <= 0; got != want {
				t.Fatalf("Has of %v and %v: %v", b, d, got)
			}
		}
	}
	for _, b := range wrongBalls() {
		for _, d := range append(dyads(), api.Dyad{M: b.Lo}, api.Dyad{M: b.Hi}) {
			if Has(b, d) {
				t.Fatalf("the wrong ball %v has %v", b, d)
			}
		}
	}
}

func TestE3InsideAndMeetsAtTheEdges(t *testing.T) {
	for _, c := range []struct {
		a, b          api.Ball
		inside, meets bool
	}{
		{small(4, 5, 3), small(1, 2, 1), true, true}, {small(1, 2, 1), small(4, 5, 3), false, true}, {small(3, 3, 0), small(1, 5, 1), false, false}, {small(1, 5, 1), small(3, 3, 0), false, false},
		{small(1, 2, 1), small(4, 8, 3), true, true}, {small(4, 8, 3), small(1, 2, 1), true, true}, {small(3, 8, 3), small(1, 2, 1), false, true}, {small(4, 9, 3), small(1, 2, 1), false, true}, {small(5, 7, 3), small(1, 2, 1), true, true},
		{small(8, 9, 3), small(1, 2, 1), false, true}, {small(9, 9, 3), small(1, 2, 1), false, false}, {small(1, 4, 3), small(1, 2, 1), false, true}, {small(1, 3, 3), small(1, 2, 1), false, false},
		{small(-2, -1, 0), small(0, 1, 0), false, false}, {small(-2, 0, 0), small(0, 1, 0), false, true}, {small(0, 0, 5), small(0, 0, 2048), true, true}, {small(0, 0, 5), small(1, 1, 2048), false, false}, {small(-1, 1, 2048), small(0, 0, 0), false, true},
		{small(7, 7, 2048), small(7, 7, 2048), true, true}, {small(7, 7, 2047), small(7, 7, 2048), false, false}, {small(7, 7, 2047), small(14, 14, 2048), true, true}, {small(-3, -2, 0), small(-5, -1, 0), true, true}, {small(-5, -1, 0), small(-3, -2, 0), false, true},
		{small(1, 0, 0), small(-9, 9, 0), false, false}, {small(-9, 9, 0), small(1, 0, 0), false, false}, {small(0, 0, 2049), small(-9, 9, 0), false, false}, {small(0, 0, 0), small(-9, 9, -1), false, false}, {small(2, 1, 0), small(2, 1, 0), false, false},
	} {
		for i, a := range forms(c.a) {
			b := forms(c.b)[len(forms(c.b))-1-i]
			if got := Inside(a, b); got != c.inside {
				t.Errorf("Inside of %v and %v: %v", a, b, got)
			}
			if got := Meets(a, b); got != c.meets {
				t.Errorf("Meets of %v and %v: %v", a, b, got)
			}
		}
	}
}

func TestE3InsideAndMeets(t *testing.T) {
	all := validBalls()
	for i, a := range all {
		low, top := ends(a)
		for j := i % 7; j < len(all); j += 7 {
			b := all[j]
			lo, hi := ends(b)
			if got, want := Inside(a, b), lo.Cmp(low) <= 0 && top.Cmp(hi) <= 0; got != want {
				t.Fatalf("Inside of %v and %v: %v", a, b, got)
			}
			if got, want := Meets(a, b), lo.Cmp(top) <= 0 && low.Cmp(hi) <= 0; got != want {
				t.Fatalf("Meets of %v and %v: %v", a, b, got)
			}
		}
		for _, b := range wrongBalls() {
			if Inside(a, b) || Inside(b, a) || Inside(b, b) || Meets(a, b) || Meets(b, a) || Meets(b, b) {
				t.Fatalf("the wrong ball %v lies somewhere: %v", b, a)
			}
		}
	}
}
