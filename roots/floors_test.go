package roots

import (
	"math/big"
	"testing"

	"hairline/api"
)

func wantFloors(t *testing.T, p list, lo, hi *big.Int, want list) {
	t.Helper()
	for i, form := range forms(p) {
		got, code := Floors(form, integerForms(lo)[i%2], integerForms(hi)[i/2])
		wantList(t, "Floors of "+text(p)+" from "+text(list{lo, hi}), got, code, want)
	}
}

func wantIn(t *testing.T, p list, lo, hi *big.Int, want list) {
	t.Helper()
	for i, form := range forms(p) {
		got, code := In(form, integerForms(lo)[i/2], integerForms(hi)[i%2])
		wantList(t, "In of "+text(p)+" from "+text(list{lo, hi}), got, code, want)
	}
}

func wantAll(t *testing.T, p list, want list) {
	t.Helper()
	for _, form := range forms(p) {
		got, code := All(form)
		wantList(t, "All of "+text(p), got, code, want)
	}
}

func TestM3Floors(t *testing.T) {
	square, cube := listOf(-2, 0, 1), listOf(0, -1, 0, 1)
	for _, c := range []struct {
		p      list
		lo, hi int64
		want   list
	}{
		{square, -5, 5, listOf(-2, 1)}, {square, -2, 1, listOf(-2, 1)}, {square, -1, 0, nil}, {square, 1, 1, listOf(1)}, {square, -2, -2, listOf(-2)},
		{square, 2, 9, nil}, {square, -9, -3, nil}, {square, -1, 1, listOf(1)}, {square, -2, 0, listOf(-2)},
		{cube, -5, 5, listOf(-1, 0, 1)}, {cube, -1, 1, listOf(-1, 0, 1)}, {cube, 0, 0, listOf(0)}, {cube, -5, -2, nil}, {cube, 2, 5, nil},
		{cube, -1, -1, listOf(-1)}, {cube, 1, 5, listOf(1)}, {cube, 0, 5, listOf(0, 1)}, {cube, -5, 0, listOf(-1, 0)},
		{listOf(2, -9, 9), -5, 5, listOf(0)}, {listOf(2, -9, 9), 0, 0, listOf(0)}, // 1/3 and 2/3
		{listOf(2, 9, 9), -5, 5, listOf(-1)}, {listOf(2, 9, 9), -1, -1, listOf(-1)}, {listOf(2, 9, 9), 0, 5, nil}, // -1/3 and -2/3
		{listOf(0, -1, 2), -5, 5, listOf(0)}, {listOf(0, 1, 2), -5, 5, listOf(-1, 0)}, // 0 and 1/2, 0 and -1/2
		{listOf(7, 2), -5, 5, listOf(-4)}, {listOf(7, 2), -3, 5, nil}, {listOf(7, 2), -5, -5, nil}, {listOf(7, -2), 3, 3, listOf(3)}, // -7/2, 7/2
		{listOf(1, 0, 1), -5, 5, nil}, {listOf(7), -5, 5, nil}, {listOf(-7), 0, 0, nil},
		{listOf(4, -4, 1), -5, 5, listOf(2)}, {listOf(-8, 12, -6, 1), 2, 2, listOf(2)}, {listOf(4, 0, -4, 0, 1), -5, 5, listOf(-2, 1)}, // multiple roots
		{listOf(6, 0, -5, 0, 1), -5, 5, listOf(-2, 1)},                                            // the roots of 2 and 3
		{listOf(-6, 11, -6, 1), -5, 5, listOf(1, 2, 3)}, {listOf(-6, 11, -6, 1), 2, 2, listOf(2)}, // 1, 2 and 3
	} {
		wantFloors(t, c.p, whole(c.lo), whole(c.hi), c.want)
		wantFloors(t, product(c.p, listOf(-5)), whole(c.lo), whole(c.hi), c.want)
	}
}

func TestM3In(t *testing.T) {
	cube := listOf(0, -1, 0, 1)
	for _, c := range []struct {
		p      list
		lo, hi int64
		want   list
	}{
		{cube, 0, 5, listOf(0, 1)}, {cube, -1, 1, listOf(-1, 0, 1)}, {cube, 1, 1, listOf(1)}, {cube, 2, 9, nil}, {cube, -9, -2, nil}, {cube, -1, 0, listOf(-1, 0)},
		{listOf(-2, 0, 1), -5, 5, nil}, {listOf(2, -9, 9), -5, 5, nil}, {listOf(7, 2), -5, 5, nil}, {listOf(1, 0, 1), -5, 5, nil}, {listOf(7), -5, 5, nil},
		{listOf(0, -1, 2), -5, 5, listOf(0)}, {listOf(0, 1, 2), -5, 5, listOf(0)}, // beside 0 there is 1/2, or -1/2
		{listOf(-2, 3, 2), -5, 5, listOf(-2)},    // and 1/2
		{listOf(3, -3, -1, 1), -5, 5, listOf(1)}, // and the roots of 3: one has the same floor
		{listOf(4, -4, 1), 2, 2, listOf(2)}, {listOf(4, -4, 1), 3, 5, nil}, {listOf(4, -4, 1), -5, 1, nil},
		{listOf(6, -6), -5, 5, listOf(1)}, {listOf(6, -4), -5, 5, nil},
	} {
		wantIn(t, c.p, whole(c.lo), whole(c.hi), c.want)
		wantIn(t, product(c.p, listOf(-5)), whole(c.lo), whole(c.hi), c.want)
	}
}

func TestM3All(t *testing.T) {
	far := shifted(1, 200)
	for _, c := range []struct{ p, want list }{
		{listOf(0, -1, 0, 1), listOf(-1, 0, 1)}, {listOf(1, 0, 1), nil}, {listOf(-2, 0, 1), nil}, {listOf(7), nil}, {listOf(-1), nil},
		{listOf(0, 1), listOf(0)}, {listOf(0, 0, 0, -4), listOf(0)}, {listOf(-5, 1), listOf(5)}, {listOf(10, 2), listOf(-5)}, {listOf(11, 2), nil},
		{list{negated(far), whole(1)}, list{far}}, {list{far, whole(1)}, list{negated(far)}}, {list{far, shifted(-1, 190)}, listOf(1024)},
		{list{negated(shifted(1, 400)), whole(0), whole(1)}, list{negated(far), far}}, {list{plus(shifted(1, 400), 1), whole(0), whole(-1)}, nil},
		{raised(listOf(-3, 1), 20), listOf(3)}, {product(raised(listOf(3, 1), 9), raised(listOf(0, 1), 12)), listOf(-3, 0)},
		{product(raised(list{far, whole(1)}, 12), raised(list{negated(far), whole(1)}, 3)), list{negated(far), far}},
	} {
		wantAll(t, c.p, c.want)
	}
}

// Against Descartes' rule of signs, with all bounds. No integer root is above 2 here, nor
// any other above 3.
func TestM3OfSmallPolynomials(t *testing.T) {
	for _, p := range smallLists() {
		truth := tabled(p, -5, 6)
		for lo := int64(-4); lo <= 4; lo++ {
			for hi := lo; hi <= 4; hi++ {
				got, code := Floors(made(p), integer(whole(lo)), integer(whole(hi)))
				wantList(t, "Floors of "+text(p), got, code, truth.floors(lo, hi, false))
				got, code = In(made(p), integer(whole(lo)), integer(whole(hi)))
				wantList(t, "In of "+text(p), got, code, truth.floors(lo, hi, true))
			}
		}
		wantAll(t, p, truth.floors(-5, 5, true))
	}
}

func TestM3OfSamples(t *testing.T) {
	s := source(88172645463325252)
	for n := range 300 {
		p := s.list(n%12, 7)
		if n%3 == 0 {
			p = product(p, list{s.integer(3), whole(1)})
		}
		truth := tabled(p, -20, 21)
		for range 10 {
			lo := int64(s.next()%40) - 20
			hi := lo + int64(s.next()%uint64(21-lo))
			wantFloors(t, p, whole(lo), whole(hi), truth.floors(lo, hi, false))
			wantIn(t, p, whole(lo), whole(hi), truth.floors(lo, hi, true))
		}
	}
}

func TestM3OfKnownRoots(t *testing.T) {
	for _, k := range families() {
		wantAll(t, k.p, k.all())
		form := forms(k.p)[3]
		for _, lo := range k.places() {
			for _, hi := range k.places() {
				if lo.Cmp(hi) > 0 {
					continue
				}
				got, code := Floors(form, integer(lo), integer(hi))
				wantList(t, "Floors of "+text(k.p)+" from "+text(list{lo, hi}), got, code, k.floors(lo, hi, false))
				got, code = In(form, integer(lo), integer(hi))
				wantList(t, "In of "+text(k.p)+" from "+text(list{lo, hi}), got, code, k.floors(lo, hi, true))
			}
		}
	}
}

// Many roots, in no order.
func TestM3OfManyRoots(t *testing.T) {
	s := source(1181783497276652981)
	for _, bits := range []int{3, 10, 64, 300} {
		for n := range 7 {
			k := constant(whole(int64(3 - 7*n)))
			for range n {
				k = times(k, at(s.integer(bits), 1+int(s.next()%3)), fraction(s.integer(bits), whole(int64(s.next()%9)+1), 1))
			}
			far := shifted(1, uint(bits+100))
			wantAll(t, k.p, k.all())
			wantFloors(t, k.p, negated(far), far, k.floors(negated(far), far, false))
		}
	}
	p := listOf(1)
	var want list
	for n := range int64(40) {
		p = product(p, listOf(n-20, 1))
		want = append(want, whole(n-19))
	}
	wantAll(t, p, want)
}

// Hundreds of thousands of bits between the bounds, and hundreds between the roots.
func TestM3FarBounds(t *testing.T) {
	far := shifted(1, 800)
	farther := shifted(1, 900_000)
	roots := times(surds(whole(0), whole(2), 1), surds(whole(0), whole(3), 1), at(whole(5), 1), at(far, 1))
	wantFloors(t, roots.p, negated(farther), farther, append(listOf(-2, 1, 5), far))
	wantIn(t, roots.p, negated(farther), farther, list{whole(5), far})
	wantFloors(t, roots.p, plus(far, 1), farther, nil)
	wantFloors(t, roots.p, negated(farther), negated(far), nil)
	wantAll(t, roots.p, list{whole(5), far})
	near := times(at(far, 1), at(plus(far, 1), 2), fraction(plus(shifted(1, 801), -1), whole(2), 1), at(negated(far), 1), at(whole(0), 1))
	wantAll(t, near.p, list{negated(far), whole(0), far, plus(far, 1)})
	wantFloors(t, near.p, whole(1), farther, list{plus(far, -1), far, plus(far, 1)})
}

func TestM3OfHighDegrees(t *testing.T) {
	p := make(api.Poly, 100_001)
	p[0], p[100_000] = integer(whole(-2)), integer(whole(1))
	far := integer(shifted(1, 3000))
	got, code := Floors(p, of(-5)[0], far)
	wantList(t, "x^100000 - 2", got, code, listOf(-2, 1))
	p[0] = integer(whole(-1))
	got, code = All(p)
	wantList(t, "x^100000 - 1", got, code, listOf(-1, 1))
	p[0] = api.Int{}
	got, code = All(p)
	wantList(t, "x^100000", got, code, listOf(0))
}

func TestM3Errors(t *testing.T) {
	far := shifted(1, 200)
	for _, nought := range noughts() {
		got, code := All(nought)
		wantNoList(t, "All of 0", got, code)
		for _, hi := range []int64{-1, 0, 1} {
			got, code = Floors(nought, of(0, 1)[0], integer(whole(hi)))
			wantNoList(t, "Floors of 0", got, code)
			got, code = In(nought, of(0, 1)[0], integer(whole(hi)))
			wantNoList(t, "In of 0", got, code)
		}
	}
	for _, p := range []api.Poly{of(7), of(-2, 0, 1), of(0, -1, 0, 1)} {
		for _, c := range [][2]*big.Int{{whole(1), whole(0)}, {whole(0), whole(-1)}, {whole(9), whole(-9)}, {plus(far, 1), far}, {far, negated(far)}} {
			for i, lo := range integerForms(c[0]) {
				got, code := Floors(p, lo, integerForms(c[1])[1-i])
				wantNoList(t, "Floors, hi less than lo", got, code)
				got, code = In(p, lo, integerForms(c[1])[1-i])
				wantNoList(t, "In, hi less than lo", got, code)
			}
		}
	}
}
