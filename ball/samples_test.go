package ball

import (
	"math/big"
	"slices"
	"testing"

	"hairline/api"
)

const (
	full     = 1<<64 - 1
	greatest = int(^uint(0) >> 1)
	least    = -greatest - 1
)

// source is a xorshift generator: the same balls at each run.
type source uint64

func (s *source) next() uint64 {
	x := uint64(*s)
	x ^= x << 13
	x ^= x >> 7
	x ^= x << 17
	*s = source(x)
	return x
}

// integer makes an integer of up to some 250 bits; one in eight is small.
func (s *source) integer() *big.Int {
	x := new(big.Int)
	for range s.next() % 4 {
		x.Lsh(x, 64).Or(x, number(s.next()))
	}
	x.Lsh(x, 61).Or(x, number(s.next()>>3>>(s.next()%61)))
	if s.next()%8 == 0 {
		x.SetUint64(s.next() % 4)
	}
	if s.next()%2 == 0 {
		x.Neg(x)
	}
	return x
}

// ball makes a valid ball, narrow or wide, of ends of both signs.
func (s *source) ball(q int) api.Ball {
	lo, hi := s.integer(), s.integer()
	if s.next()%3 == 0 {
		hi.Add(lo, number(s.next()%3))
	}
	if lo.Cmp(hi) > 0 {
		lo, hi = hi, lo
	}
	return made(lo, hi, q)
}

func number(x uint64) *big.Int {
	return new(big.Int).SetUint64(x)
}

// integer makes an integer without the help of the layers below.
func integer(x *big.Int) api.Int {
	out := api.Int{Neg: x.Sign() < 0}
	rest := new(big.Int).Abs(x)
	for rest.Sign() > 0 {
		out.Mag = append(out.Mag, new(big.Int).And(rest, number(full)).Uint64())
		rest.Rsh(rest, 64)
	}
	return out
}

func whole(n int64) api.Int {
	return integer(big.NewInt(n))
}

func small(lo, hi int64, q int) api.Ball {
	return made(big.NewInt(lo), big.NewInt(hi), q)
}

func made(lo, hi *big.Int, q int) api.Ball {
	return api.Ball{Lo: integer(lo), Hi: integer(hi), Q: q}
}

// value tells what an integer means by another arithmetic than the program's.
func value(a api.Int) *big.Int {
	out := new(big.Int)
	for _, x := range slices.Backward(a.Mag) {
		out.Lsh(out, 64).Or(out, number(x))
	}
	if a.Neg {
		out.Neg(out)
	}
	return out
}

// moved is x times 2^n for an n of any sign.
func moved(x *big.Int, n int) *big.Rat {
	if n < 0 {
		return new(big.Rat).SetFrac(x, new(big.Int).Lsh(big.NewInt(1), uint(-n)))
	}
	return new(big.Rat).SetInt(new(big.Int).Lsh(x, uint(n)))
}

// ends are the numbers at which a ball begins and ends.
func ends(b api.Ball) (*big.Rat, *big.Rat) {
	return moved(value(b.Lo), -b.Q), moved(value(b.Hi), -b.Q)
}

// counted is what a dyad argument counts as.
func counted(d api.Dyad) *big.Rat {
	if d.E < -4000 || d.E > 4000 {
		return new(big.Rat)
	}
	return moved(value(d.M), d.E)
}

// floor is x times 2^q, rounded down; big.Int's Div does so for a positive
// divisor.
func floor(x *big.Rat, q int) *big.Int {
	y := new(big.Rat).Mul(x, moved(big.NewInt(1), q))
	return new(big.Int).Div(y.Num(), y.Denom())
}

func ceil(x *big.Rat, q int) *big.Int {
	up := floor(new(big.Rat).Neg(x), q)
	return up.Neg(up)
}

// long adds leading zero limbs, and sets Neg for the value 0.
func long(a api.Int) api.Int {
	return api.Int{Neg: a.Neg || len(a.Mag) == 0, Mag: append(slices.Clone(a.Mag), 0, 0)}
}

// forms are ways to write one ball.
func forms(b api.Ball) []api.Ball {
	return []api.Ball{b, {Lo: long(b.Lo), Hi: b.Hi, Q: b.Q}, {Lo: b.Lo, Hi: long(b.Hi), Q: b.Q}, {Lo: long(b.Lo), Hi: long(b.Hi), Q: b.Q}}
}

// validBalls have ends of all signs, equal ends, and all kinds of Q.
func validBalls() []api.Ball {
	var out []api.Ball
	s := source(2463534242)
	for _, q := range []int{0, 1, 2, 63, 64, 65, 1999, 2000, 2001, 2047, 2048} {
		for lo := int64(-2); lo <= 2; lo++ {
			for hi := lo; hi <= 2; hi++ {
				out = append(out, forms(small(lo, hi, q))...)
			}
		}
		for range 8 {
			out = append(out, s.ball(q))
		}
		// Ends with a whole part as well, however great Q is.
		b := s.ball(q)
		out = append(out, made(new(big.Int).Lsh(value(b.Lo), uint(q)), new(big.Int).Lsh(value(b.Hi), uint(q)), q))
	}
	return out
}

// wrongBalls are not valid: each for one reason, and one for both.
func wrongBalls() []api.Ball {
	out := []api.Ball{small(1, 0, 0), small(0, -1, 0), small(1, -1, 5), small(-1, -2, 2048), small(3, 2, 64), small(2, 1, -1), small(2, 1, 2049)}
	out = append(out, api.Ball{Lo: api.Int{Mag: []uint64{0, 1}}, Hi: api.Int{Mag: []uint64{full, 0, 0}}})
	out = append(out, api.Ball{Lo: api.Int{Neg: true, Mag: []uint64{0}}, Hi: api.Int{Neg: true, Mag: []uint64{1, 0}}})
	for _, q := range wrongQ() {
		out = append(out, small(0, 0, q), small(1, 2, q), small(-1, 1, q))
	}
	return out
}

func wrongQ() []int {
	return []int{least, least + 1, -2048, -2, -1, 2049, 2050, 4096, greatest - 1, greatest}
}

// pairs calls f with two balls of the same Q: all small ones, and mixed ones.
func pairs(f func(a, b api.Ball)) {
	for _, q := range []int{0, 1, 3} {
		for a := range int64(9) {
			for b := range int64(9) {
				for width := range int64(12) {
					f(small(a-5, a-5+width/4, q), small(b-5, b-5+width%4, q))
				}
			}
		}
	}
	s := source(88172645463325252)
	for _, q := range []int{0, 1, 2, 63, 64, 65, 300, 1999, 2000, 2001, 2047, 2048} {
		for range 60 {
			f(s.ball(q), s.ball(q))
			f(s.ball(q), small(-1, 1, q))
			// A product of two narrow balls needs ends with a whole part at a great Q.
			b := s.ball(q)
			f(made(new(big.Int).Lsh(value(b.Lo), uint(q)), new(big.Int).Lsh(value(b.Hi), uint(q)), q), s.ball(q))
		}
	}
}

func wantNormal(t *testing.T, what string, got api.Int) {
	t.Helper()
	if n := len(got.Mag); n > 0 && got.Mag[n-1] == 0 {
		t.Fatalf("%s: leading zero limb in %x", what, got.Mag)
	}
	if len(got.Mag) == 0 && got.Neg {
		t.Fatalf("%s: Neg is set for 0", what)
	}
}

func wantBall(t *testing.T, what string, got api.Ball, code api.Errno, lo, hi *big.Int, q int) {
	t.Helper()
	wantNormal(t, what, got.Lo)
	wantNormal(t, what, got.Hi)
	if code != api.OK || got.Q != q || value(got.Lo).Cmp(lo) != 0 || value(got.Hi).Cmp(hi) != 0 {
		t.Fatalf("%s: %d to %d at %d, error %d, want %d to %d at %d", what, value(got.Lo), value(got.Hi), got.Q, code, lo, hi, q)
	}
}

func wantSmall(t *testing.T, what string, got api.Ball, code api.Errno, lo, hi int64, q int) {
	t.Helper()
	wantBall(t, what, got, code, big.NewInt(lo), big.NewInt(hi), q)
}

func wantError(t *testing.T, what string, got api.Ball, code, want api.Errno) {
	t.Helper()
	if code != want || len(got.Lo.Mag)+len(got.Hi.Mag) > 0 || got.Lo.Neg || got.Hi.Neg || got.Q != 0 {
		t.Fatalf("%s: %v, error %d, want the zero ball and error %d", what, got, code, want)
	}
}
