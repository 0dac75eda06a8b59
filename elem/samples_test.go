package elem

import (
	"fmt"
	"math/big"
	"slices"
	"testing"

	"hairline/api"
)

const (
	full     = 1<<64 - 1
	greatest = int(^uint(0) >> 1)
	least    = -greatest - 1
)

func names() []string {
	return []string{"Exp", "Exp2", "Log", "Log2", "Sin", "Cos"}
}

// source is a xorshift generator: the same numbers at each run.
type source uint64

func (s *source) next() uint64 {
	x := uint64(*s)
	x ^= x << 13
	x ^= x >> 7
	x ^= x << 17
	*s = source(x)
	return x
}

// upTo makes a number from low to high.
func (s *source) upTo(low, high int) int {
	return low + int(s.next()%uint64(high-low+1))
}

// dyadic is m times 2^e, in another arithmetic than the program's. e may be any
// number: m may be even.
type dyadic struct {
	m *big.Int
	e int
}

func small(m int64, e int) dyadic {
	return dyadic{big.NewInt(m), e}
}

// units is m times 2^-w.
func units(m *big.Int, w int) dyadic {
	return dyadic{m, -w}
}

func power(n int) *big.Int {
	return new(big.Int).Lsh(big.NewInt(1), uint(n))
}

func (x dyadic) negative() dyadic {
	return dyadic{new(big.Int).Neg(x.m), x.e}
}

// floor is x times 2^q, rounded down; big.Int's Rsh does so.
func (x dyadic) floor(q int) *big.Int {
	if x.e+q < 0 {
		return new(big.Int).Rsh(x.m, uint(-x.e-q))
	}
	return new(big.Int).Lsh(x.m, uint(x.e+q))
}

func (x dyadic) ceil(q int) *big.Int {
	out := x.negative().floor(q)
	return out.Neg(out)
}

// log is the greatest n such that 2^n is not greater than the absolute value of
// x, which is not 0.
func (x dyadic) log() int {
	return x.m.BitLen() - 1 + x.e
}

func (x dyadic) String() string {
	return fmt.Sprintf("%d times 2^%d", x.m, x.e)
}

// argument makes a dyad without the help of the layers below, and not in normal
// form if x is not.
func (x dyadic) argument() api.Dyad {
	return api.Dyad{M: integer(x.m), E: x.e}
}

// forms are ways to write the same dyad, as long as their E count.
func (x dyadic) forms() []api.Dyad {
	var out []api.Dyad
	for _, n := range []int{0, 1, 64, 130} {
		same := dyadic{new(big.Int).Lsh(x.m, uint(n)), x.e - n}.argument()
		if n == 0 || same.E >= -4000 {
			out = append(out, same, api.Dyad{M: long(same.M), E: same.E})
		}
	}
	return out
}

// integer makes an integer without the help of the layers below.
func integer(x *big.Int) api.Int {
	out := api.Int{Neg: x.Sign() < 0}
	rest := new(big.Int).Abs(x)
	for rest.Sign() > 0 {
		out.Mag = append(out.Mag, new(big.Int).And(rest, new(big.Int).SetUint64(full)).Uint64())
		rest.Rsh(rest, 64)
	}
	return out
}

// value tells what an integer means by another arithmetic than the program's.
func value(a api.Int) *big.Int {
	out := new(big.Int)
	for _, x := range slices.Backward(a.Mag) {
		out.Lsh(out, 64).Or(out, new(big.Int).SetUint64(x))
	}
	if a.Neg {
		out.Neg(out)
	}
	return out
}

// long adds leading zero limbs, and sets Neg for the value 0.
func long(a api.Int) api.Int {
	return api.Int{Neg: a.Neg || len(a.Mag) == 0, Mag: append(slices.Clone(a.Mag), 0, 0)}
}

// zeros are ways to write 0, and dyads that count as 0.
func zeros() []api.Dyad {
	out := []api.Dyad{{}}
	for _, e := range []int{least, -4001, -4000, -1201, -1200, -1, 0, 1, 4000, 4001, greatest} {
		out = append(out, api.Dyad{E: e}, api.Dyad{M: api.Int{Neg: true}, E: e}, api.Dyad{M: api.Int{Neg: true, Mag: []uint64{0, 0}}, E: e})
	}
	for _, e := range []int{least, least + 1, -8192, -4002, -4001, 4001, 4002, 8192, greatest - 1, greatest} {
		out = append(out, small(1, e).argument(), small(-1, e).argument(), small(1024, e).argument(), small(-3, e).argument())
	}
	return out
}

func wrongF() []int {
	return []int{least, -6, -1, 6, 7, 256, 1 << 32, greatest}
}

func wrongQ() []int {
	return []int{least, least + 1, -800, -41, -40, -39, -1, 801, 802, 860, 861, 1160, 1161, 2048, 2049, greatest - 40, greatest - 39, greatest}
}

func wantNormal(t *testing.T, what string, got api.Int) {
	t.Helper()
	if n := len(got.Mag); n > 0 && got.Mag[n-1] == 0 {
		t.Fatalf("%s: leading zero limb in %x", what, got.Mag)
	}
	if len(got.Mag) == 0 && got.Neg {
		t.Fatalf("%s: Neg is set for 0", what)
	}
}

func wantBall(t *testing.T, what string, got api.Ball, lo, hi *big.Int, q int) {
	t.Helper()
	wantNormal(t, what, got.Lo)
	wantNormal(t, what, got.Hi)
	if got.Q != q || value(got.Lo).Cmp(lo) != 0 || value(got.Hi).Cmp(hi) != 0 {
		t.Fatalf("%s: %d to %d at %d, want %d to %d at %d", what, value(got.Lo), value(got.Hi), got.Q, lo, hi, q)
	}
}

func wantAt(t *testing.T, f int, x dyadic, q int, lo, hi *big.Int, k int) {
	t.Helper()
	for _, form := range x.forms() {
		got, gotK, code := At(f, form, q)
		if code != api.OK || gotK != k {
			t.Fatalf("%s of %v at %d: K %d, error %d, want K %d", names()[f], x, q, gotK, code, k)
		}
		wantBall(t, names()[f]+" of "+x.String(), got, lo, hi, q)
	}
}

func wantError(t *testing.T, f int, x api.Dyad, q int) {
	t.Helper()
	got, k, code := At(f, x, q)
	if code != api.ErrArg || k != 0 || got.Q != 0 || len(got.Lo.Mag)+len(got.Hi.Mag) > 0 || got.Lo.Neg || got.Hi.Neg {
		t.Fatalf("function %d of %d times 2^%d at %d: %v, %d, error %d, want the zero ball, 0, error 1", f, value(x.M), x.E, q, got, k, code)
	}
}

// at calls At with arguments that are right.
func at(t *testing.T, f int, x dyadic, q int) (api.Ball, int) {
	t.Helper()
	got, k, code := At(f, x.argument(), q)
	if code != api.OK {
		t.Fatalf("%s of %v at %d: error %d", names()[f], x, q, code)
	}
	return got, k
}
