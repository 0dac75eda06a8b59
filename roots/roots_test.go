package roots

import (
	"math/big"
	"testing"

	"hairline/api"
)

func wantSign(t *testing.T, p list, x *big.Int) {
	t.Helper()
	want := valueAt(p, x).Sign()
	for _, form := range forms(p) {
		for _, a := range integerForms(x) {
			if got := Sign(form, a); got != want {
				t.Fatalf("Sign of %s at %d: %d, want %d", text(p), x, got, want)
			}
		}
	}
}

// points are arguments of polynomials: small ones, and ones of one to three limbs.
func points() list {
	var out list
	for n := range int64(13) {
		out = append(out, whole(n-6))
	}
	for _, n := range []uint{31, 63, 64, 65, 150} {
		out = append(out, shifted(1, n), shifted(-1, n), plus(shifted(1, n), -1), plus(shifted(-3, n), 1))
	}
	return out
}

func TestM1Sign(t *testing.T) {
	for _, c := range []struct {
		p    api.Poly
		x    int64
		want int
	}{
		{of(-2, 0, 1), 1, -1}, {of(-2, 0, 1), -2, 1}, {of(-2, 0, 1), 0, -1},
		{of(0, -1, 0, 1), 0, 0}, {of(0, -1, 0, 1), 1, 0}, {of(0, -1, 0, 1), -1, 0}, {of(0, -1, 0, 1), -2, -1}, {of(0, -1, 0, 1), 2, 1},
		{of(7), 0, 1}, {of(-7), 5, -1}, {of(-7), -5, -1},
		{of(0, 1), -3, -1}, {of(0, -1), -3, 1}, {of(0, 0, -1), -3, -1}, {of(0, 0, 0, -1), -3, 1},
		{of(5, 0, 0), 0, 1}, {of(-5, 3, 0), 0, -1},
	} {
		if got := Sign(c.p, integer(whole(c.x))); got != c.want {
			t.Errorf("Sign of %v at %d: %d, want %d", c.p, c.x, got, c.want)
		}
	}
}

func TestM1SignOfZero(t *testing.T) {
	for _, nought := range noughts() {
		for _, x := range append(points(), shifted(-1, 4096)) {
			if got := Sign(nought, integer(x)); got != 0 {
				t.Fatalf("Sign of 0 at %d: %d", x, got)
			}
		}
	}
}

func TestM1SignOfSamples(t *testing.T) {
	for _, p := range smallLists() {
		for _, x := range points() {
			wantSign(t, p, x)
		}
	}
	s := source(2463534242)
	for degree := range 30 {
		for _, bits := range []int{2, 8, 64, 200} {
			p := s.list(degree, bits)
			for _, x := range append(points(), s.integer(bits), s.integer(2*bits)) {
				wantSign(t, p, x)
			}
		}
	}
}

// Around a root of any size, of any multiplicity, with other roots near it or not.
func TestM1SignAroundRoots(t *testing.T) {
	for _, x := range points() {
		for multiplicity := range 4 {
			around := at(x, multiplicity+1).p
			for _, other := range []list{listOf(-1), listOf(1, 0, 3), at(plus(x, 1), 1).p, at(plus(x, -2), 5).p, at(shifted(1, 200), 1).p} {
				p := product(around, other)
				for n := range int64(7) {
					wantSign(t, p, plus(x, n-3))
				}
			}
		}
	}
}

// All coefficients below the leading one are as great as they can be for their number
// of bits, and try to turn its sign. They succeed at last, or only just fail.
func TestM1SignThatTurnsLate(t *testing.T) {
	for _, bits := range []uint{1, 2, 3, 4, 63, 64, 65} {
		greatest := plus(shifted(1, bits), -1)
		for lead := range int64(5) {
			for _, first := range []*big.Int{whole(lead + 1), new(big.Int).Sub(greatest, whole(lead)), plus(shifted(1, bits-1), lead-2)} {
				for degree := range 12 {
					for n := range int64(4) {
						x := whole(n + 1)
						wantSign(t, late(first, greatest, degree, false), x)
						wantSign(t, late(first, greatest, degree, true), negated(x))
						wantSign(t, late(first, negated(greatest), degree, true), negated(x))
					}
				}
			}
		}
	}
}

// At 1 and -1 the values get great by many coefficients alone, and small again.
func TestM1SignThatTurnsAtOne(t *testing.T) {
	for degree := range 60 {
		for above := range degree + 1 {
			var p list
			for n := range degree + 1 {
				if n > degree-above {
					p = append(p, whole(3))
				} else {
					p = append(p, whole(-2))
				}
			}
			wantSign(t, p, whole(1))
			wantSign(t, put(p, whole(0), whole(-1)), whole(-1))
		}
	}
}

// late is first x^degree less greatest times all lower powers, or this at -x.
func late(first, greatest *big.Int, degree int, mirrored bool) list {
	var p list
	for range degree {
		p = append(p, negated(greatest))
	}
	p = append(p, first)
	if mirrored {
		p = put(p, whole(0), whole(-1))
	}
	return cut(p)
}

// A value of a million times a million bits would not end.
func TestM1SignOfHighDegrees(t *testing.T) {
	p := make(api.Poly, 1_000_000)
	p[0], p[1], p[999_999] = integer(whole(5)), integer(shifted(1, 3000)), integer(whole(-1))
	for _, c := range []struct {
		x    *big.Int
		want int
	}{
		{whole(0), 1}, {whole(1), 1}, {whole(-1), -1}, {whole(2), -1}, {whole(-2), 1}, {shifted(1, 900_000), -1}, {shifted(-1, 900_000), 1},
	} {
		if got := Sign(p, integer(c.x)); got != c.want {
			t.Errorf("Sign at a number of %d bits: %d, want %d", c.x.BitLen(), got, c.want)
		}
	}
}

func wantBound(t *testing.T, p list, want *big.Int) {
	t.Helper()
	for _, form := range forms(p) {
		got, code := Bound(form)
		if code != api.OK {
			t.Fatalf("Bound of %s: error %d", text(p), code)
		}
		wantInteger(t, "Bound of "+text(p), got, want)
	}
}

func TestM1Bound(t *testing.T) {
	for _, c := range []struct {
		p    list
		want int64
	}{
		{listOf(-2, 0, 1), 4}, {listOf(2, 0, 1), 4}, {listOf(2, 0, -1), 4},
		{listOf(7), 2}, {listOf(-7), 2}, {listOf(1), 2}, // constants
		{listOf(0, 5), 2}, {listOf(0, 0, -5), 2}, // nothing below the leading coefficient
		{listOf(7, 2), 5}, {listOf(-7, 2), 5}, {listOf(7, -2), 5}, {listOf(-7, -2), 5}, // a rest
		{listOf(8, 2), 6}, {listOf(-8, 2), 6}, // none
		{listOf(1, 2), 2}, {listOf(-1, 2), 2}, {listOf(2, 2), 3}, {listOf(-3, 2), 3}, // quotients around 1
		{listOf(3, -9, 4, 2), 6}, {listOf(3, 4, -9, -2), 6}, {listOf(-9, 4, 3, 2), 6}, // the greatest one is negative
		{listOf(3, 9, -4, 2), 6}, {listOf(3, -4, 9, -2), 6}, {listOf(9, -8, 3, 2), 6}, // or positive
		{listOf(3, -4, 100), 2}, {listOf(3, -4, -100), 2}, // the leading one does not count
		{listOf(99, 0, 100), 2}, {listOf(100, 0, 100), 3},
	} {
		wantBound(t, c.p, whole(c.want))
	}
	wantBound(t, list{shifted(-1, 200), whole(1)}, plus(shifted(1, 200), 2))
	wantBound(t, list{shifted(-1, 200), whole(0), whole(-8)}, plus(shifted(1, 197), 2))
	wantBound(t, list{shifted(3, 200), whole(0), shifted(1, 201)}, whole(3))
	wantBound(t, list{plus(shifted(1, 128), -1), shifted(1, 64)}, plus(shifted(1, 64), 1))
	wantBound(t, list{plus(shifted(-1, 128), 1), shifted(-1, 64)}, plus(shifted(1, 64), 1))
}

func TestM1BoundOfSamples(t *testing.T) {
	s := source(362436069)
	all := smallLists()
	for degree := range 12 {
		all = append(all, s.list(degree, 5), s.list(degree, 70), s.list(degree, 300))
	}
	for _, p := range all {
		greatest := new(big.Int)
		for _, c := range p[:len(p)-1] {
			if c.CmpAbs(greatest) > 0 {
				greatest = c
			}
		}
		quotient := new(big.Int).Quo(greatest, p[len(p)-1])
		wantBound(t, p, plus(new(big.Int).Abs(quotient), 2))
	}
}

func TestM1BoundErrors(t *testing.T) {
	for _, nought := range noughts() {
		got, code := Bound(nought)
		wantInteger(t, "Bound of 0", got, whole(0))
		if code != api.ErrArg {
			t.Errorf("Bound of 0: error %d", code)
		}
	}
}
