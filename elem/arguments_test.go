package elem

import (
	"math/big"

	"hairline/api"
)

// arguments are what At takes for f: numbers at the edges, numbers so small that
// they are few units at w, numbers beside which the steps take another turn, and
// mixed ones.
func (p place) arguments(f int) []dyadic {
	var out []dyadic
	for _, x := range p.candidates() {
		if taken(f, x) {
			out = append(out, x)
		}
	}
	return out
}

// taken says what the chapter says about x.
func taken(f int, x dyadic) bool {
	e, m := x.e, new(big.Int).Set(x.m)
	for m.Sign() != 0 && m.Bit(0) == 0 {
		m.Rsh(m, 1)
		e++
	}
	if m.Sign() == 0 {
		return f != api.Log && f != api.Log2
	}
	if f == api.Log || f == api.Log2 {
		return e >= -1200 && m.Sign() > 0 && x.log() >= -1100 && x.log() <= 1100
	}
	return e >= -1200 && x.log() <= 9
}

func (p place) candidates() []dyadic {
	out := []dyadic{small(0, 0)}
	out = append(out, both(edges())...)
	out = append(out, both(p.beside())...)
	return append(out, both(mixed(p.w))...)
}

func both(l []dyadic) []dyadic {
	var out []dyadic
	for _, x := range l {
		out = append(out, x, x.negative())
	}
	return out
}

func edges() []dyadic {
	out := []dyadic{
		small(1, 0), small(3, 0), small(5, 0), small(6, 0), small(1, -1), small(3, -1), small(3, -2), small(355, -7),
		small(1, 9), small(1023, 0), small(2047, -1), small(1, -1200), small(3, -1200), small(1, -1100), small(3, -1101), small(1, 1100),
	}
	for _, n := range []int{10, 64, 1100, 1101, 1200, 1210} { // ones all over, or at both ends
		ones := new(big.Int).Sub(power(n), big.NewInt(1))
		for _, e := range []int{-1200, 1 - n, 10 - n, 1101 - n} {
			out = append(out, dyadic{ones, e})
		}
		out = append(out, dyadic{new(big.Int).Add(power(n-1), big.NewInt(1)), 1 - n})
	}
	return out
}

// beside are numbers some units from 0 and 1, and from multiples of ln 2 and of
// half pi as they are rounded up and down.
func (p place) beside() []dyadic {
	var out []dyadic
	near := func(base *big.Int, steps ...int64) {
		for _, n := range steps {
			out = append(out, units(new(big.Int).Add(base, big.NewInt(n)), p.w))
		}
	}
	near(new(big.Int), 1, 2, 3, 10, 11, 24, 100, 300)
	near(power(p.w), -200, -50, -25, -10, -2, -1, 1, 2, 30)
	for _, k := range []int64{1, 2, 3, 4, 650} {
		for _, end := range []*big.Int{p.L.lo, p.L.hi, p.H.lo, p.H.hi} {
			near(new(big.Int).Mul(end, big.NewInt(k)), -1, 0)
		}
	}
	return out
}

// mixed are doubles, as they are searched later, and numbers of more or fewer
// places than w.
func mixed(w int) []dyadic {
	s := source(2463534242 + uint64(w))
	var out []dyadic
	for range 8 {
		double := new(big.Int).SetUint64(s.next()>>12 | 1<<52)
		out = append(out, dyadic{double, s.upTo(-62, -43)}, dyadic{double, s.upTo(-53, -51)}, dyadic{double, s.upTo(-1148, 1048)})
		wide := new(big.Int)
		for range s.upTo(1, 18) {
			wide.Lsh(wide, 64).Or(wide, new(big.Int).SetUint64(s.next()))
		}
		out = append(out, dyadic{wide, s.upTo(-7, 9) - wide.BitLen()})
	}
	return out
}
