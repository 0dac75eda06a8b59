package elem

import (
	"math/big"

	"hairline/api"
	"hairline/consts"
	"hairline/rows"
)

// The chapter's steps, one by one, in another arithmetic than that of package
// ball.

// ends are those of a ball at w.
type ends struct {
	lo, hi *big.Int
}

// place is a w, with the balls L and H at it.
type place struct {
	w    int
	L, H ends
}

// placeAt halves Pi of w and rounds it outwards.
func placeAt(w int) place {
	pi := of(consts.Pi(w))
	return place{w, of(consts.Ln2(w)), ends{units(pi.lo, 1).floor(0), units(pi.hi, 1).ceil(0)}}
}

func of(b api.Ball, code api.Errno) ends {
	if code != api.OK {
		panic("chapter 7 refuses what chapter 8 hands it")
	}
	return ends{value(b.Lo), value(b.Hi)}
}

func pointOf(x dyadic, w int) ends {
	return ends{x.floor(w), x.ceil(w)}
}

func (a ends) plus(b ends) ends {
	return ends{new(big.Int).Add(a.lo, b.lo), new(big.Int).Add(a.hi, b.hi)}
}

func (a ends) minus(b ends) ends {
	return ends{new(big.Int).Sub(a.lo, b.hi), new(big.Int).Sub(a.hi, b.lo)}
}

func (a ends) scaled(k int64) ends {
	lo, hi := new(big.Int).Mul(a.lo, big.NewInt(k)), new(big.Int).Mul(a.hi, big.NewInt(k))
	if k < 0 {
		lo, hi = hi, lo
	}
	return ends{lo, hi}
}

// over is a / b at w, for a positive b: the least quotient has the end of b that
// lies on the other side.
func (a ends) over(b ends, w int) ends {
	small, great := b.hi, b.lo
	if a.lo.Sign() < 0 {
		small = b.lo
	}
	if a.hi.Sign() < 0 {
		great = b.hi
	}
	return ends{divide(new(big.Int).Lsh(a.lo, uint(w)), small), divideUp(new(big.Int).Lsh(a.hi, uint(w)), great)}
}

// recast drops the places from w down to q, outwards.
func (a ends) recast(w, q int) ends {
	return ends{units(a.lo, w).floor(q), units(a.hi, w).ceil(q)}
}

// divide is DOWN of x / y; big.Int's Div does so for a positive divisor.
func divide(x, y *big.Int) *big.Int {
	return new(big.Int).Div(x, y)
}

func divideUp(x, y *big.Int) *big.Int {
	out := divide(new(big.Int).Neg(x), y)
	return out.Neg(out)
}

// sumOf is what chapter 6 gives for t at w.
func sumOf(sum series, t *big.Int, w, n int) ends {
	lo, hi, code := sum(integer(t), w, n)
	if code != api.OK {
		panic("chapter 6 refuses what chapter 8 hands it")
	}
	return ends{value(lo), value(hi)}
}

func (p place) exponential(r ends) ends {
	n := p.w/4 + 10
	return ends{sumOf(rows.Exp, r.lo, p.w, n).lo, sumOf(rows.Exp, r.hi, p.w, n).hi}
}

// steps are the ball at w and K that the chapter's table describes.
func (p place) steps(f int, x dyadic) (ends, int) {
	switch f {
	case api.Exp:
		return p.exp(x)
	case api.Exp2:
		return p.exp2(x)
	case api.Log, api.Log2:
		return p.log(f, x), 0
	}
	return p.sin(f, x), 0
}

func (p place) exp(x dyadic) (ends, int) {
	X := pointOf(x, p.w)
	K := divide(X.lo, p.L.hi)
	if X.lo.Sign() < 0 {
		K = divide(X.lo, p.L.lo)
	}
	return p.exponential(X.minus(p.L.scaled(K.Int64()))), int(K.Int64())
}

// The ball of x - K has no negative numbers, and neither has L.
func (p place) exp2(x dyadic) (ends, int) {
	K := x.floor(0)
	rest, same := pointOf(x, p.w), dyadic{K, 0}.floor(p.w)
	rest = rest.minus(ends{same, same})
	lo, hi := new(big.Int).Mul(rest.lo, p.L.lo), new(big.Int).Mul(rest.hi, p.L.hi)
	return p.exponential(ends{units(lo, p.w).floor(0), units(hi, p.w).ceil(0)}), int(K.Int64())
}

func (p place) log(f int, x dyadic) ends {
	e, n := x.log(), p.w/3+2
	M, ONE := pointOf(dyadic{x.m, x.e - e}, p.w), ends{power(p.w), power(p.w)}
	U := M.minus(ONE).over(M.plus(ONE), p.w)
	S := ends{sumOf(rows.Atanh, U.lo, p.w, n).lo, sumOf(rows.Atanh, U.hi, p.w, n).hi}
	if f == api.Log {
		return S.scaled(2).plus(p.L.scaled(int64(e)))
	}
	return S.scaled(2).over(p.L, p.w).plus(ONE.scaled(int64(e)))
}

// turns is k of the chapter, and the ball that is left over.
func (p place) turns(x dyadic) (int64, ends) {
	X := pointOf(dyadic{new(big.Int).Abs(x.m), x.e}, p.w)
	k := divide(X.lo, p.H.hi).Int64()
	return k, X.minus(p.H.scaled(k))
}

// remainder is j of the chapter.
func remainder(f int, k int64) int64 {
	if f == api.Cos {
		k++
	}
	return k % 4
}

func (p place) sin(f int, x dyadic) ends {
	k, R := p.turns(x)
	j := remainder(f, k)
	sum := rows.Sin
	if j == 1 || j == 3 {
		sum = rows.Cos
	}
	g := new(big.Int).Sub(R.hi, R.lo)
	out := sumOf(sum, R.lo, p.w, p.w/8+6).plus(ends{new(big.Int).Neg(g), g})
	if (j == 2 || j == 3) != (f == api.Sin && x.m.Sign() < 0) {
		return out.scaled(-1)
	}
	return out
}
