package point

import (
	"math/big"
	"slices"
	"testing"

	"hairline/api"
)

const (
	full     = 1<<64 - 1
	sign     = 1 << 63
	greatest = int(^uint(0) >> 1)
	least    = -greatest - 1
)

func names() []string {
	return []string{"Exp", "Exp2", "Log", "Log2", "Sin", "Cos"}
}

// source is a xorshift generator: the same numbers at each run.
type source uint64

func (s *source) next() uint64 {
	x := uint64(*s)
	x ^= x << 13
	x ^= x >> 7
	x ^= x << 17
	*s = source(x)
	return x
}

// upTo makes a number from low to high.
func (s *source) upTo(low, high int) int {
	return low + int(s.next()%uint64(high-low+1))
}

// wide makes an integer of at most so many bits, positive or negative.
func (s *source) wide(bits int) *big.Int {
	out := new(big.Int)
	for out.BitLen() < bits {
		out.Lsh(out, 64).Or(out, new(big.Int).SetUint64(s.next()))
	}
	out.Rsh(out, uint(out.BitLen()-s.upTo(0, bits)))
	if s.next()%2 > 0 {
		out.Neg(out)
	}
	return out
}

func whole(n int64) *big.Int {
	return big.NewInt(n)
}

// power2 is 2^n.
func power2(n int) *big.Int {
	return new(big.Int).Lsh(whole(1), uint(n))
}

func plus(x *big.Int, n int64) *big.Int {
	return new(big.Int).Add(x, whole(n))
}

func negative(x *big.Int) *big.Int {
	return new(big.Int).Neg(x)
}

// integer makes an integer without the help of the layers below.
func integer(x *big.Int) api.Int {
	out := api.Int{Neg: x.Sign() < 0}
	rest := new(big.Int).Abs(x)
	for rest.Sign() > 0 {
		out.Mag = append(out.Mag, new(big.Int).And(rest, new(big.Int).SetUint64(full)).Uint64())
		rest.Rsh(rest, 64)
	}
	return out
}

// value tells what an integer means by another arithmetic than the program's.
func value(a api.Int) *big.Int {
	out := new(big.Int)
	for _, x := range slices.Backward(a.Mag) {
		out.Lsh(out, 64).Or(out, new(big.Int).SetUint64(x))
	}
	if a.Neg {
		out.Neg(out)
	}
	return out
}

// long adds leading zero limbs, and sets Neg for the value 0.
func long(a api.Int) api.Int {
	return api.Int{Neg: a.Neg || len(a.Mag) == 0, Mag: append(slices.Clone(a.Mag), 0, 0)}
}

// ends are those of a ball, apart from its Q.
type ends struct {
	lo, hi *big.Int
}

func small(lo, hi int64) ends {
	return ends{whole(lo), whole(hi)}
}

func (b ends) negative() ends {
	return ends{negative(b.hi), negative(b.lo)}
}

func (b ends) hasZero() bool {
	return b.lo.Sign() <= 0 && b.hi.Sign() >= 0
}

// forms are two ways to write the ball with these ends.
func (b ends) forms(q int) []api.Ball {
	lo, hi := integer(b.lo), integer(b.hi)
	return []api.Ball{{Lo: lo, Hi: hi, Q: q}, {Lo: long(lo), Hi: long(hi), Q: q}}
}

// wrongQ are numbers that are no Q of a valid ball, and no s either.
func wrongQ() []int {
	return []int{least, least + 1, -4001, -2049, -2048, -1, 2049, 2050, 4000, 4096, 1 << 40, greatest - 1, greatest}
}

func wantInteger(t *testing.T, what string, got api.Int, want *big.Int) {
	t.Helper()
	if n := len(got.Mag); n > 0 && got.Mag[n-1] == 0 || n == 0 && got.Neg {
		t.Fatalf("%s: not in normal form: %v", what, got)
	}
	if value(got).Cmp(want) != 0 {
		t.Fatalf("%s: %d, want %d", what, value(got), want)
	}
}
