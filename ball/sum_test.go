package ball

import (
	"math/big"
	"testing"

	"hairline/api"
)

type operation struct {
	name string
	call func(a, b api.Ball) (api.Ball, api.Errno)
	at   func(x, y *big.Rat) *big.Rat
}

func operations() []operation {
	return []operation{
		{"Add", Add, func(x, y *big.Rat) *big.Rat { return new(big.Rat).Add(x, y) }},
		{"Sub", Sub, func(x, y *big.Rat) *big.Rat { return new(big.Rat).Sub(x, y) }},
		{"Mul", Mul, func(x, y *big.Rat) *big.Rat { return new(big.Rat).Mul(x, y) }},
		{"Div", Div, func(x, y *big.Rat) *big.Rat { return new(big.Rat).Quo(x, y) }},
	}
}

// steps are numbers of a ball, its ends among them, and inner ones if it is
// narrow: a result that looked at the wrong ends would leave one of them out.
func steps(b api.Ball) []*big.Rat {
	lo, hi := ends(b)
	out := []*big.Rat{lo, hi}
	x := value(b.Lo)
	for range 8 {
		x.Add(x, big.NewInt(1))
		if x.Cmp(value(b.Hi)) < 0 {
			out = append(out, moved(x, -b.Q))
		}
	}
	return out
}

// reach is the smallest and the greatest of what at makes of two balls' numbers.
func reach(a, b api.Ball, at func(x, y *big.Rat) *big.Rat) (*big.Rat, *big.Rat) {
	var lo, hi *big.Rat
	for _, x := range steps(a) {
		for _, y := range steps(b) {
			z := at(x, y)
			if lo == nil || z.Cmp(lo) < 0 {
				lo = z
			}
			if hi == nil || z.Cmp(hi) > 0 {
				hi = z
			}
		}
	}
	return lo, hi
}

func zeroWithin(b api.Ball) bool {
	return value(b.Lo).Sign() <= 0 && value(b.Hi).Sign() >= 0
}

func TestE2OfTwoBalls(t *testing.T) {
	for _, o := range operations() {
		pairs(func(a, b api.Ball) {
			got, code := o.call(a, b)
			if o.name == "Div" && zeroWithin(b) {
				wantError(t, "Div by a ball with 0", got, code, api.ErrZero)
				return
			}
			lo, hi := reach(a, b, o.at)
			wantBall(t, o.name, got, code, floor(lo, a.Q), ceil(hi, a.Q), a.Q)
		})
	}
}

func TestE2AtTheEdges(t *testing.T) {
	all := operations()
	add, sub, mul, div := all[0], all[1], all[2], all[3]
	for _, c := range []struct {
		operation
		a, b   api.Ball
		lo, hi int64
	}{
		{add, small(1, 2, 0), small(3, 5, 0), 4, 7}, {add, small(-3, 2, 4), small(-1, 1, 4), -4, 3}, {add, small(5, 5, 9), small(-5, -5, 9), 0, 0}, {add, small(0, 0, 2048), small(0, 0, 2048), 0, 0},
		{sub, small(1, 2, 0), small(3, 5, 0), -4, -1}, {sub, small(-3, 2, 4), small(-1, 1, 4), -4, 3}, {sub, small(1, 2, 4), small(1, 2, 4), -1, 1}, {sub, small(7, 7, 2048), small(7, 7, 2048), 0, 0},
		{mul, small(-1, 2, 0), small(3, 4, 0), -4, 8}, {mul, small(-3, -2, 0), small(-5, 4, 0), -12, 15}, {mul, small(-3, 2, 0), small(-5, 4, 0), -12, 15}, {mul, small(-3, -2, 0), small(-5, -4, 0), 8, 15},
		{mul, small(1, 1, 1), small(1, 1, 1), 0, 1}, {mul, small(-1, -1, 1), small(1, 1, 1), -1, 0}, {mul, small(2, 2, 1), small(-3, 3, 1), -3, 3}, {mul, small(0, 0, 7), small(-9, 9, 7), 0, 0},
		{mul, small(1, 1, 2048), small(1, 1, 2048), 0, 1}, {mul, small(-1, 1, 2048), small(1, 1, 2048), -1, 1}, {mul, small(-1, -1, 2000), small(1, 1, 2000), -1, 0}, {mul, small(1, 1, 2001), small(1, 1, 2001), 0, 1},
		{div, small(1, 1, 2), small(3, 3, 2), 1, 2}, {div, small(-1, -1, 2), small(3, 3, 2), -2, -1}, {div, small(1, 1, 2), small(-3, -3, 2), -2, -1}, {div, small(-1, -1, 2), small(-3, -3, 2), 1, 2},
		{div, small(-4, 6, 0), small(2, 3, 0), -2, 3}, {div, small(-4, 6, 0), small(-3, -2, 0), -3, 2}, {div, small(4, 6, 0), small(-3, -2, 0), -3, -1}, {div, small(-6, -4, 0), small(-3, -2, 0), 1, 3},
		{div, small(6, 6, 0), small(-2, -2, 0), -3, -3}, {div, small(7, 7, 0), small(-2, -2, 0), -4, -3}, {div, small(0, 0, 5), small(1, 9, 5), 0, 0}, {div, small(0, 1, 0), small(7, 7, 0), 0, 1}, {div, small(-1, 0, 0), small(7, 7, 0), -1, 0},
	} {
		for i, a := range forms(c.a) {
			got, code := c.call(a, forms(c.b)[len(forms(c.b))-1-i])
			wantSmall(t, c.name, got, code, c.lo, c.hi, c.a.Q)
		}
	}
	one := new(big.Int).Lsh(big.NewInt(1), 2048)
	got, code := Div(small(5, 5, 2048), small(5, 5, 2048))
	wantBall(t, "5 by 5 at MaxQ", got, code, one, one, 2048)
	got, code = Mul(made(one, one, 2048), small(-3, 7, 2048))
	wantSmall(t, "1 times a ball at MaxQ", got, code, -3, 7, 2048)
}

func TestE2DivByZero(t *testing.T) {
	for _, q := range []int{0, 1, 64, 2048} {
		for _, b := range []api.Ball{small(0, 0, q), small(0, 3, q), small(-3, 0, q), small(-3, 3, q), small(-1, 1, q)} {
			for _, form := range forms(b) {
				got, code := Div(small(-1, 1, q), form)
				wantError(t, "Div by a ball with 0", got, code, api.ErrZero)
				got, code = Div(small(1, -1, q), form)
				wantError(t, "Div of a wrong ball by one with 0", got, code, api.ErrArg)
				got, code = Div(small(1, 2, (q+1)%2049), form)
				wantError(t, "Div with different Q by a ball with 0", got, code, api.ErrArg)
			}
		}
		for _, b := range []api.Ball{small(3, -3, q), small(1, 0, q), small(0, -1, q), small(-3, 3, -1), small(0, 0, 2049)} {
			got, code := Div(small(1, 1, q), b)
			wantError(t, "Div by a wrong ball", got, code, api.ErrArg)
			got, code = Div(small(1, 1, b.Q), b)
			wantError(t, "Div by a wrong ball of the same Q", got, code, api.ErrArg)
		}
	}
}

func TestE2WrongBalls(t *testing.T) {
	for _, o := range operations() {
		for _, b := range wrongBalls() {
			for _, a := range []api.Ball{b, small(1, 2, 0), small(1, 2, 2048), small(1, 2, b.Q)} {
				got, code := o.call(a, b)
				wantError(t, o.name, got, code, api.ErrArg)
				got, code = o.call(b, a)
				wantError(t, o.name, got, code, api.ErrArg)
			}
		}
		for _, q := range [][2]int{{0, 1}, {1, 0}, {2, 3}, {0, 2048}, {2047, 2048}} {
			got, code := o.call(small(1, 2, q[0]), small(1, 2, q[1]))
			wantError(t, o.name+" with different Q", got, code, api.ErrArg)
		}
	}
}

func TestE2Times(t *testing.T) {
	for _, c := range []struct {
		lo, hi, k, low, top int64
	}{
		{-1, 2, 3, -3, 6}, {-1, 2, -3, -6, 3}, {1, 2, -3, -6, -3}, {-2, -1, -3, 3, 6}, {-1, 2, 0, 0, 0}, {-1, 2, 1, -1, 2}, {-1, 2, -1, -2, 1}, {0, 0, -7, 0, 0}, {5, 5, -7, -35, -35},
	} {
		for _, q := range []int{0, 3, 2048} {
			for _, b := range forms(small(c.lo, c.hi, q)) {
				got, code := Times(b, whole(c.k))
				wantSmall(t, "Times", got, code, c.low, c.top, q)
				got, code = Times(b, long(whole(c.k)))
				wantSmall(t, "Times by a long k", got, code, c.low, c.top, q)
			}
		}
	}
	s := source(521288629)
	for _, b := range validBalls() {
		for range 3 {
			k := s.integer()
			lo, hi := new(big.Int).Mul(value(b.Lo), k), new(big.Int).Mul(value(b.Hi), k)
			if lo.Cmp(hi) > 0 {
				lo, hi = hi, lo
			}
			got, code := Times(b, integer(k))
			wantBall(t, "Times", got, code, lo, hi, b.Q)
		}
	}
	for _, b := range wrongBalls() {
		for _, k := range []int64{-2, -1, 0, 1, 2} {
			got, code := Times(b, whole(k))
			wantError(t, "Times of a wrong ball", got, code, api.ErrArg)
		}
	}
}

func TestE2ShiftAtTheEdges(t *testing.T) {
	for _, c := range []struct {
		lo, hi   int64
		n        int
		low, top int64
	}{
		{-3, 5, 0, -3, 5}, {-3, 5, 1, -6, 10}, {-3, 5, -1, -2, 3}, {-4, 4, -2, -1, 1}, {3, 3, -1, 1, 2}, {-3, -3, -1, -2, -1}, {0, 0, 4000, 0, 0}, {0, 0, -4000, 0, 0},
		{1, 2, -4000, 0, 1}, {-2, -1, -4000, -1, 0}, {-2, 1, -4000, -1, 1}, {0, 1, -3999, 0, 1},
	} {
		for _, q := range []int{0, 5, 2048} {
			for _, b := range forms(small(c.lo, c.hi, q)) {
				got, code := Shift(b, c.n)
				wantSmall(t, "Shift", got, code, c.low, c.top, q)
			}
		}
	}
	got, code := Shift(small(-3, 5, 2048), 4000)
	wantBall(t, "Shift by 4000", got, code, new(big.Int).Lsh(big.NewInt(-3), 4000), new(big.Int).Lsh(big.NewInt(5), 4000), 2048)
	got, code = Shift(made(new(big.Int).Lsh(big.NewInt(-3), 4000), new(big.Int).Lsh(big.NewInt(5), 4000), 1), -4000)
	wantSmall(t, "Shift by -4000", got, code, -3, 5, 1)
}

func TestE2Shift(t *testing.T) {
	for _, b := range validBalls() {
		lo, hi := moved(value(b.Lo), 0), moved(value(b.Hi), 0)
		for _, n := range []int{-4000, -3999, -2048, -65, -64, -63, -2, -1, 0, 1, 63, 64, 65, 2048, 4000} {
			got, code := Shift(b, n)
			wantBall(t, "Shift", got, code, floor(lo, n), ceil(hi, n), b.Q)
		}
		for _, n := range []int{least, -8001, -4002, -4001, 4001, 4002, 8001, greatest} {
			got, code := Shift(b, n)
			wantError(t, "Shift by a wrong n", got, code, api.ErrArg)
		}
	}
	for _, b := range wrongBalls() {
		for _, n := range []int{-4001, -4000, 0, 1, 4000, 4001} {
			got, code := Shift(b, n)
			wantError(t, "Shift of a wrong ball", got, code, api.ErrArg)
		}
	}
}
