package polyz

import (
	"math/big"
	"testing"
)

func TestJ4Content(t *testing.T) {
	for _, c := range []struct {
		p    list
		want int64
	}{
		{small(4, -6), 2}, {small(-4, -6), 2}, {small(-4), 4}, {small(7), 7}, {small(0, 0, -5), 5}, {small(0, -6, 0, 9), 3},
		{small(6, 10, 15), 1}, {small(1, 0, 0, 100), 1}, {small(-1), 1}, {small(0, 12, 18, -30), 6},
	} {
		for _, form := range forms(c.p) {
			wantInteger(t, "Content", Content(form), whole(c.want))
		}
	}
	for _, zero := range zeroForms() {
		wantInteger(t, "of 0", Content(zero), whole(0))
	}
	for _, p := range lists() {
		for _, c := range points() {
			form := forms(scaled(p, c))[2]
			wantInteger(t, "Content", Content(form), content(scaled(p, c)))
		}
	}
}

func TestJ4Primitive(t *testing.T) {
	for _, c := range []struct{ p, want list }{
		{small(4, -6), small(-2, 3)}, {small(-4, 6), small(-2, 3)}, {small(-4, -6), small(2, 3)}, {small(2, 3), small(2, 3)},
		{small(-7), small(1)}, {small(7), small(1)}, {small(1), small(1)}, {small(0, 0, -5), small(0, 0, 1)}, {small(0, 1, -1), small(0, -1, 1)},
		{small(6, 10, 15), small(6, 10, 15)}, {small(6, 10, -15), small(-6, -10, 15)},
	} {
		for _, form := range forms(c.p) {
			wantPoly(t, "Primitive", Primitive(form), c.want)
		}
	}
	for _, zero := range zeroForms() {
		wantPoly(t, "of 0", Primitive(zero), nil)
	}
	for _, p := range lists() {
		for _, c := range points() {
			form := forms(scaled(p, c))[3]
			wantPoly(t, "Primitive", Primitive(form), primitive(scaled(p, c)))
		}
	}
}

func wantGcd(t *testing.T, p, q, want list) {
	t.Helper()
	for i, form := range forms(p) {
		wantPoly(t, "Gcd", Gcd(form, forms(q)[3-i]), want)
		wantPoly(t, "Gcd, the other order", Gcd(forms(q)[i], form), want)
	}
}

func TestJ4Gcd(t *testing.T) {
	for _, c := range []struct{ p, q, want list }{
		{small(-2, 0, 2), small(4, 4), small(2, 2)},
		{nil, nil, nil}, {nil, small(-6), small(6)}, {nil, small(4, -6), small(-4, 6)}, {nil, small(4, 6), small(4, 6)},
		{small(12), small(-18), small(6)}, {small(-12), small(-18), small(6)}, {small(1), small(-18), small(1)},
		{small(12), small(4, -18), small(2)}, {small(-3), small(6, 0, 9), small(3)}, {small(5), small(6, 0, 9), small(1)}, // a constant
		{small(6, 6), small(8, 12, 4), small(2, 2)}, {small(-6, -6), small(-8, -12, -4), small(2, 2)}, // contents of their own
		{small(6, 6), small(35, 0, 35), small(1)}, {small(6, 6), small(9, 0, 9), small(3)}, // nothing but contents in common
		{small(1, 1), small(2, 1), small(1)}, {small(1, 0, 1), small(0, 1), small(1)}, {small(2, 1), small(2, 0, 1), small(1)}, // nothing at all
		{small(3, -2), small(3, -2), small(-3, 2)}, {small(-4, 2), small(4, -2), small(-4, 2)}, // of itself, and its negative
		{small(0, 0, 0, 4), small(0, 0, -6), small(0, 0, 2)},
		{small(1, 2), small(2, 1), small(1)}, {small(0, 2), small(0, 4), small(0, 2)},
		{small(-1, 0, 0, 0, 0, 0, 1), small(-1, 0, 0, 0, 1), small(-1, 0, 1)}, // x^6 - 1 and x^4 - 1
	} {
		wantGcd(t, c.p, c.q, c.want)
	}
	for _, zero := range zeroForms() {
		for _, other := range zeroForms() {
			wantPoly(t, "of 0 and 0", Gcd(zero, other), nil)
		}
	}
}

func TestJ4GcdOfPairs(t *testing.T) {
	pairs(func(p, q list) {
		wantPoly(t, "Gcd", Gcd(made(p), made(q)), greatest(p, q))
	})
}

// The chapter's words, taken literally: the polynomial divides both, and whatever
// divides both divides it.
func TestJ4GcdIsTheGreatest(t *testing.T) {
	all := smallLists()
	divisors := make([][]bool, len(all))
	for i, p := range all {
		for _, d := range all {
			_, ok := divides(d, p)
			divisors[i] = append(divisors[i], ok)
		}
	}
	for i, p := range all {
		for j, q := range all {
			got := read(Gcd(made(p), made(q)))
			for k, d := range all {
				if !divisors[i][k] || !divisors[j][k] {
					continue
				}
				if _, ok := divides(d, got); !ok {
					t.Fatalf("Gcd of %d and %d: %d, which %d does not divide", p, q, got, d)
				}
			}
			_, okP := divides(got, p)
			_, okQ := divides(got, q)
			if !okP || !okQ || len(got) > 0 && got[len(got)-1].Sign() < 0 {
				t.Fatalf("Gcd of %d and %d: %d", p, q, got)
			}
		}
	}
}

// Rests whose degrees fall by more than 1, at the start or later: 8, 6, 4, 2, 1, 0
// here (Knuth's example).
func TestJ4GcdWithGaps(t *testing.T) {
	p, q := small(-5, 2, 8, -3, -3, 0, 1, 0, 1), small(21, -9, -4, 0, 5, 0, 3)
	wantGcd(t, p, q, small(1))
	for _, common := range []list{small(-3), small(7, -5, 0, 2), small(0, 0, 6, -9), monomial(-2, 5)} {
		wantGcd(t, product(p, common), product(q, common), scaled(primitive(common), content(common)))
	}
}

// Polynomials with few terms leave rests of all kinds of degrees.
func TestJ4GcdOfFewTerms(t *testing.T) {
	s := source(521288629)
	gaps := map[int]int{}
	for range 3000 {
		var lists [3]list
		for i, degree := range []int{12, 12, 4} {
			for range 1 + s.next()%3 {
				lists[i] = plus(lists[i], monomial(int64(s.next()%9)-4, int(s.next())&15%(degree+1)))
			}
		}
		p, q := product(lists[0], lists[2]), product(lists[1], lists[2])
		wantPoly(t, "Gcd", Gcd(made(p), made(q)), greatest(p, q))
		countGaps(p, q, gaps)
	}
	for gap := range 6 {
		if gaps[gap] < 20 {
			t.Errorf("only %d rests whose degree is %d less than the one before", gaps[gap], gap)
		}
	}
}

// Here the rests are chosen first, and the polynomials made from them: their degrees
// fall by each number from 1 to 4 after each other, with leading coefficients that
// have nothing in common.
func TestJ4GcdOfChosenRests(t *testing.T) {
	s := source(17)
	for n := range 256 {
		last := s.list(int(s.next()%3), 8)
		p, q := product(last, s.list(1+n%4, 8)), last
		for m := n; m > 0; m /= 4 {
			factor, multiple := s.list(1+m%4, 8), scaled(q, whole(int64(3+s.next()%9)))
			p, q = plus(product(p, factor), multiple), p
		}
		wantPoly(t, "Gcd", Gcd(made(p), made(q)), greatest(p, q))
	}
}

// countGaps counts by how much the degrees of Euclid's rests fall after the first.
func countGaps(p, q list, gaps map[int]int) {
	for first := true; len(p) > 0 && len(q) > 1; first = false {
		if !first || len(p) == len(q) {
			gaps[len(p)-len(q)]++
		}
		_, rest := quotient(p, q)
		p, q = q, rest.primitive()
	}
}

func TestJ4GcdOfLongNumbers(t *testing.T) {
	s := source(362436069)
	for degree := range 12 {
		p, q, common := s.list(degree+3, 300), s.list(14-degree, 250), s.list(degree, 200)
		p, q = product(p, common), product(q, common)
		wantPoly(t, "Gcd", Gcd(made(p), made(q)), greatest(p, q))
		wantPoly(t, "Gcd of p and p", Gcd(made(p), made(p.opposite())), scaled(primitive(p), content(p)))
	}
}

func wantSimple(t *testing.T, p, want list) {
	t.Helper()
	for _, form := range forms(p) {
		wantPoly(t, "Simple", Simple(form), want)
	}
}

func TestJ4Simple(t *testing.T) {
	for _, c := range []struct{ p, want list }{
		{small(0, 0, -3, 3), small(0, -1, 1)},
		{small(7), small(1)}, {small(-7), small(1)}, {small(1), small(1)},
		{small(4, -6), small(-2, 3)}, {small(-4, -6), small(2, 3)},
		{small(1, 2, 1), small(1, 1)}, {small(-1, -2, -1), small(1, 1)}, {small(9, -12, 4), small(-3, 2)}, {small(-2, 0, 1), small(-2, 0, 1)},
		{small(1, 0, 2, 0, 1), small(1, 0, 1)}, {small(2, 0, 2), small(1, 0, 1)},
		{monomial(-12, 9), small(0, 1)},
	} {
		wantSimple(t, c.p, c.want)
	}
	for _, zero := range zeroForms() {
		wantPoly(t, "of 0", Simple(zero), nil)
	}
	for _, p := range lists() {
		wantSimple(t, p, simplest(p))
	}
}

// Each factor has roots of its own, and appears up to 4 times.
func TestJ4SimpleOfPowers(t *testing.T) {
	factors := []list{small(0, 1), small(-1, 1), small(3, 2), small(-2, 0, 1), small(1, 1, 1), {new(big.Int).Lsh(whole(1), 70), whole(-3)}}
	s := source(2463534242)
	for range 200 {
		p, want := small(int64(s.next()%9)-10), small(1)
		for _, f := range factors {
			times := s.next() % 5
			if s.next()%2 == 0 {
				times = 0
			}
			for range times {
				p = product(p, f)
			}
			if times > 0 {
				want = product(want, f)
			}
		}
		got := Simple(made(p))
		wantPoly(t, "Simple", got, primitive(want))
		wantPoly(t, "Simple again", Simple(got), read(got))
		wantPoly(t, "Gcd with the derivative", Gcd(got, Derive(got)), small(1))
	}
}

// Degrees well above 32.
func TestJ4LongLists(t *testing.T) {
	s := source(17)
	p, common := s.list(40, 30), s.list(10, 30)
	square := product(product(common, common), small(-6))
	wantPoly(t, "Simple of a square", Simple(made(square)), simplest(common))
	q := product(derived(p), common)
	p = product(p, common)
	wantPoly(t, "Gcd", Gcd(made(p), made(q)), greatest(p, q))
	far, near, shared := plus(monomial(1, 2000), small(-1)), plus(monomial(1, 1500), small(-1)), plus(monomial(1, 500), small(-1))
	wantPoly(t, "x^2000 - 1 and x^1500 - 1", Gcd(made(far), made(near)), shared)
	wantPoly(t, "x^2000 and 0", Gcd(made(monomial(-4, 2000)), nil), monomial(4, 2000))
}
