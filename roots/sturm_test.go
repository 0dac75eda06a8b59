package roots

import (
	"math/big"
	"testing"

	"hairline/api"
)

func wantCount(t *testing.T, p list, a, b *big.Int, want int) {
	t.Helper()
	for i, form := range forms(p) {
		got, code := Count(form, integerForms(a)[i%2], integerForms(b)[i/2])
		if got != want || code != api.OK {
			t.Fatalf("Count of %s from %d to %d: %d, error %d, want %d", text(p), a, b, got, code, want)
		}
	}
}

func TestM2Count(t *testing.T) {
	square, cube := listOf(-2, 0, 1), listOf(0, -1, 0, 1)
	for _, c := range []struct {
		p    list
		a, b int64
		want int
	}{
		{square, 0, 2, 1}, {square, -2, 2, 2}, {square, -2, 0, 1}, {square, -1, 1, 0}, {square, 2, 9, 0}, {square, -9, -2, 0},
		{cube, -1, 1, 2}, {cube, -2, 1, 3}, {cube, -2, 0, 2}, {cube, -1, 0, 1}, {cube, -2, -1, 1}, {cube, 1, 9, 0}, {cube, 0, 1, 1},
		{cube, 0, 0, 0}, {cube, -1, -1, 0}, {cube, 5, 5, 0}, {square, 1, 1, 0}, // a = b
		{listOf(4, -4, 1), 1, 2, 1}, {listOf(4, -4, 1), 0, 9, 1}, {listOf(4, -4, 1), 2, 9, 0}, {listOf(4, -4, 1), 0, 1, 0}, // (x - 2)^2
		{listOf(-8, 12, -6, 1), 1, 2, 1}, {listOf(-8, 12, -6, 1), -9, 9, 1}, {listOf(-8, 12, -6, 1), 2, 3, 0}, // (x - 2)^3
		{listOf(0, 0, 0, 0, -5), -1, 0, 1}, {listOf(0, 0, 0, 0, -5), 0, 1, 0}, {listOf(0, 0, 0, 0, -5), -1, 1, 1},
		{listOf(4, 0, -4, 0, 1), -2, 2, 2}, {listOf(4, 0, -4, 0, 1), 0, 2, 1}, // (x^2 - 2)^2
		{listOf(1, 0, 1), -9, 9, 0}, {listOf(1, 0, 2, 0, 1), -9, 9, 0}, {listOf(-1, 1, -1), -9, 9, 0}, // no real root
		{listOf(7), -9, 9, 0}, {listOf(-7), 0, 0, 0}, {listOf(-7), -9, 9, 0}, // constants
		{listOf(-3, 2), 1, 2, 1}, {listOf(3, -2), 1, 2, 1}, {listOf(3, 2), -2, -1, 1}, {listOf(3, 2), -1, 0, 0}, // 3/2, -3/2
		{listOf(-4, 2), 1, 2, 1}, {listOf(-4, 2), 2, 3, 0}, {listOf(0, -6), -1, 0, 1},
		{listOf(-1, 0, 0, 0, 0, 1), 0, 1, 1}, {listOf(-1, 0, 0, 0, 0, 1), -5, 0, 0}, // x^5 - 1
		{listOf(-1, -1, 0, 0, 0, 1), 1, 2, 1}, {listOf(-1, -1, 0, 0, 0, 1), -5, 1, 0}, // x^5 - x - 1
		{listOf(1, -5, 0, 0, 0, 1), -9, 9, 3}, {listOf(1, -5, 0, 0, 0, -1), -9, 9, 1},
	} {
		wantCount(t, c.p, whole(c.a), whole(c.b), c.want)
		opposite := product(c.p, listOf(-3))
		wantCount(t, opposite, whole(c.a), whole(c.b), c.want)
	}
}

// Against Descartes' rule of signs, with all bounds.
func TestM2CountOfSmallPolynomials(t *testing.T) {
	for _, p := range smallLists() {
		truth := tabled(p, -5, 6)
		for a := int64(-5); a <= 5; a++ {
			for b := a; b <= 5; b++ {
				want := truth.count(a, b)
				got, code := Count(made(p), integer(whole(a)), integer(whole(b)))
				if got != want || code != api.OK {
					t.Fatalf("Count of %s from %d to %d: %d, error %d, want %d", text(p), a, b, got, code, want)
				}
			}
		}
	}
}

func TestM2CountOfSamples(t *testing.T) {
	s := source(521288629)
	for n := range 300 {
		p := s.list(n%12, 7)
		truth := tabled(p, -20, 21)
		for range 20 {
			a := int64(s.next()%41) - 20
			b := a + int64(s.next()%uint64(21-a))
			wantCount(t, p, whole(a), whole(b), truth.count(a, b))
		}
	}
}

// families are polynomials whose roots are known.
func families() []known {
	far, farther, limb := shifted(1, 200), plus(shifted(-3, 300), 1), new(big.Int).SetUint64(full)
	double := at(whole(2), 2)
	return []known{
		constant(whole(1)), constant(far), none(far, whole(1)), none(whole(-3), negated(farther)),
		double, at(whole(0), 1), at(whole(0), 7), at(far, 1), at(limb, 3), at(negated(limb), 2),
		times(at(far, 1), at(plus(far, 1), 1)), times(at(far, 2), at(plus(far, -1), 3), at(whole(0), 1)), // next to each other, and far away
		times(at(far, 1), at(negated(far), 1), none(whole(0), whole(1))), times(at(farther, 5), at(whole(-1), 4)),
		times(at(whole(3), 2), at(whole(3), 3)), times(at(whole(3), 1), at(whole(-3), 1), at(whole(0), 1), at(whole(2), 1), at(whole(-2), 4)),
		fraction(whole(7), whole(2), 1), fraction(whole(-7), whole(2), 2), fraction(whole(-1), far, 1), fraction(whole(1), far, 3), fraction(farther, whole(5), 2),
		times(fraction(whole(1), whole(3), 1), fraction(whole(1), whole(2), 2), fraction(whole(2), whole(3), 1)), // all of one floor
		times(fraction(whole(-1), whole(3), 1), fraction(whole(-1), whole(2), 1), at(whole(-1), 2), at(whole(0), 1)),
		times(fraction(plus(shifted(1, 201), 1), whole(2), 1), at(far, 1), at(plus(far, 1), 1)), // far + 1/2
		times(fraction(whole(1), far, 1), fraction(whole(1), plus(far, 1), 1), at(whole(0), 1)), // closer to each other than any step of 1
		surds(whole(0), whole(2), 1), surds(whole(0), whole(2), 3), surds(whole(-7), whole(2), 2), surds(far, whole(3), 1), surds(whole(1), plus(far, 1), 2),
		times(surds(whole(0), whole(2), 1), surds(whole(0), whole(3), 1), at(whole(1), 1), at(whole(-2), 1)),
		times(surds(whole(0), plus(far, 1), 1), surds(whole(0), plus(far, 2), 1)), // of one floor, close to each other, several limbs long
		times(surds(far, whole(2), 1), at(far, 2), fraction(whole(1), whole(3), 1), none(whole(5), whole(2)), at(negated(far), 1)),
		times(at(shifted(1, 64), 1), at(shifted(1, 63), 1), at(shifted(-1, 64), 1), at(limb, 1)),
		times(constant(whole(-6)), double, surds(whole(2), whole(5), 1)), times(constant(farther), at(far, 2), none(whole(0), whole(7))),
	}
}

// places are all numbers near roots, and some far away.
func (k known) places() list {
	out := list{whole(0), shifted(1, 500), shifted(-1, 500), whole(3), whole(-3)}
	for _, r := range k.roots {
		for n := range int64(5) {
			out = append(out, plus(r.floor, n-2))
		}
	}
	return sorted(out)
}

func TestM2CountOfKnownRoots(t *testing.T) {
	for _, k := range families() {
		for _, a := range k.places() {
			for _, b := range k.places() {
				if a.Cmp(b) <= 0 {
					wantCount(t, k.p, a, b, k.count(a, b))
				}
			}
		}
	}
}

// Remainders of degrees that fall by more than 1, with leading coefficients of both
// signs.
func TestM2CountWithGaps(t *testing.T) {
	for _, c := range []struct {
		p    list
		want int // of all roots; truth tells those up to some bound
	}{
		{listOf(-2, 0, 0, 0, 0, 0, 1), 2}, {listOf(2, 0, 0, 0, 0, 0, 1), 0}, {listOf(-2, 0, 0, 0, 0, 0, 0, 1), 1}, {listOf(2, 0, 0, 0, 0, 0, 0, -1), 1},
		{listOf(1, -4, 0, 0, 0, 0, 0, 1), 3}, {listOf(-1, 4, 0, 0, 0, 0, 0, -1), 3}, {listOf(1, 4, 0, 0, 0, 0, 0, -1), 3}, {listOf(1, 4, 0, 0, 0, 0, 1), 2},
		{listOf(3, 0, -7, 0, 0, 0, 0, 0, 1), 4}, {listOf(3, 0, 7, 0, 0, 0, 0, 0, 1), 0}, {listOf(1, 0, 0, -5, 0, 0, 0, 0, 0, 1), 3}, {listOf(5, 0, 0, 0, 0, -9, 0, 0, 0, 0, 3), 2},
		{listOf(-1, 0, 5, 0, 0, 0, 0, -3), 3}, {listOf(0, 0, 0, 1, 0, 0, 0, -2, 0, 1), 5}, {listOf(1, 1, 1, 1, 0, 0, 0, 0, 0, 0, -1), 2},
	} {
		for _, sign := range []int64{1, -1} {
			for _, mirror := range []int64{1, -1} {
				p := put(product(c.p, listOf(sign)), whole(0), whole(mirror))
				truth := tabled(p, -9, 10)
				if truth.count(-9, 9) != c.want {
					t.Fatalf("%s has %d roots, not %d", text(p), truth.count(-9, 9), c.want)
				}
				for a := int64(-3); a <= 3; a++ {
					wantCount(t, p, whole(a), shifted(1, 300), truth.count(a, 9))
					wantCount(t, p, whole(-9), whole(a), truth.count(-9, a))
				}
			}
		}
	}
}

func TestM2CountOfHighDegrees(t *testing.T) {
	p := make(api.Poly, 100_001)
	p[0], p[100_000] = integer(whole(-2)), integer(whole(1))
	for _, c := range []struct {
		a, b *big.Int
		want int
	}{
		{whole(1), whole(2), 1}, {whole(-1), whole(1), 0}, {whole(-2), whole(2), 2}, {shifted(-1, 3000), shifted(1, 3000), 2},
	} {
		if got, code := Count(p, integer(c.a), integer(c.b)); got != c.want || code != api.OK {
			t.Errorf("Count from %d to %d: %d, error %d, want %d", c.a, c.b, got, code, c.want)
		}
	}
}

func TestM2CountErrors(t *testing.T) {
	for _, nought := range noughts() {
		for _, b := range []int64{-1, 0, 1} {
			if got, code := Count(nought, integer(whole(0)), integer(whole(b))); got != 0 || code != api.ErrArg {
				t.Errorf("Count of 0: %d, error %d", got, code)
			}
		}
	}
	far := shifted(1, 200)
	for _, p := range []api.Poly{of(7), of(-2, 0, 1), of(0, 1)} {
		for _, c := range [][2]*big.Int{{whole(1), whole(0)}, {whole(0), whole(-1)}, {whole(9), whole(-9)}, {plus(far, 1), far}, {far, negated(far)}} {
			for i, a := range integerForms(c[0]) {
				if got, code := Count(p, a, integerForms(c[1])[1-i]); got != 0 || code != api.ErrArg {
					t.Errorf("Count from %d to %d: %d, error %d", c[0], c[1], got, code)
				}
			}
		}
	}
}
