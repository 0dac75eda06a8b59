package rows

import (
	"math/big"
	"slices"
	"testing"

	"hairline/api"
)

const (
	full     = 1<<64 - 1
	greatest = int(^uint(0) >> 1)
	least    = -greatest - 1
)

// function is one of the package's, with what the chapter says about it.
type function struct {
	name   string
	call   func(api.Int, int, int) (api.Int, api.Int, api.Errno)
	halves int64 // the greatest T
	rule   func(t *big.Int, q, n int) (*big.Int, *big.Int)
	exact  func(x *big.Int) *big.Int // at fine
}

func functions() []function {
	return []function{
		{"Exp", Exp, 2, ruleExp, exactExp},
		{"Atanh", Atanh, 1, ruleAtanh, exactAtanh},
		{"Atan", Atan, 1, ruleAtan, exactAtan},
		{"Sin", Sin, 4, ruleSin, exactSin},
		{"Cos", Cos, 4, ruleCos, exactCos},
	}
}

// source is a xorshift generator: the same integers at each run.
type source uint64

func (s *source) next() uint64 {
	x := uint64(*s)
	x ^= x << 13
	x ^= x >> 7
	x ^= x << 17
	*s = source(x)
	return x
}

// upTo makes an integer from 0 to bound.
func (s *source) upTo(bound *big.Int) *big.Int {
	x := new(big.Int)
	for range bound.BitLen()/64 + 2 {
		x.Lsh(x, 64).Or(x, number(s.next()))
	}
	return x.Mod(x, new(big.Int).Add(bound, big.NewInt(1)))
}

func number(x uint64) *big.Int {
	return new(big.Int).SetUint64(x)
}

// integer makes an integer without the help of the layers below.
func integer(x *big.Int) api.Int {
	out := api.Int{Neg: x.Sign() < 0}
	rest := new(big.Int).Abs(x)
	for rest.Sign() > 0 {
		out.Mag = append(out.Mag, new(big.Int).And(rest, number(full)).Uint64())
		rest.Rsh(rest, 64)
	}
	return out
}

func whole(n int64) api.Int {
	return integer(big.NewInt(n))
}

// value tells what an integer means by another arithmetic than the program's.
func value(a api.Int) *big.Int {
	out := new(big.Int)
	for _, x := range slices.Backward(a.Mag) {
		out.Lsh(out, 64).Or(out, number(x))
	}
	if a.Neg {
		out.Neg(out)
	}
	return out
}

// long adds leading zero limbs, and sets Neg for the value 0.
func long(a api.Int) api.Int {
	return api.Int{Neg: a.Neg || len(a.Mag) == 0, Mag: append(slices.Clone(a.Mag), 0, 0)}
}

// zeroForms are the ways to write 0.
func zeroForms() []api.Int {
	return []api.Int{{}, {Neg: true}, {Mag: []uint64{}}, {Mag: []uint64{0}}, {Neg: true, Mag: []uint64{0, 0, 0}}}
}

// bound is the greatest t for which T is at most so many halves.
func bound(halves int64, q int) *big.Int {
	b := new(big.Int).Lsh(big.NewInt(halves), uint(q))
	return b.Rsh(b, 1)
}

// arguments are t at q for a function: the edges of its range, what lies beside
// them, and mixed ones.
func arguments(halves int64, q int) []*big.Int {
	top := bound(halves, q)
	out := []*big.Int{new(big.Int), top}
	if top.Sign() > 0 {
		out = append(out, big.NewInt(1), new(big.Int).Sub(top, big.NewInt(1)), new(big.Int).Rsh(top, 1), new(big.Int).Rsh(top, uint(q)/2))
	}
	s := source(2463534242 + uint64(q))
	return append(out, s.upTo(top), s.upTo(top), s.upTo(new(big.Int).Rsh(top, 7)))
}

func wrongQ() []int {
	return []int{least, least + 1, -1200, -2, -1, 1201, 1202, 2048, greatest - 1, greatest}
}

func wrongN() []int {
	return []int{least, least + 1, -400, -1, 0, 401, 402, 4096, greatest - 1, greatest}
}

func wantNormal(t *testing.T, what string, got api.Int) {
	t.Helper()
	if n := len(got.Mag); n > 0 && got.Mag[n-1] == 0 {
		t.Fatalf("%s: leading zero limb in %x", what, got.Mag)
	}
	if len(got.Mag) == 0 && got.Neg {
		t.Fatalf("%s: Neg is set for 0", what)
	}
}

// want calls the function with t, and with t in another form.
func (f function) want(t *testing.T, x *big.Int, q, n int, low, high *big.Int) {
	t.Helper()
	for _, form := range []api.Int{integer(x), long(integer(x))} {
		lo, hi, code := f.call(form, q, n)
		wantNormal(t, f.name, lo)
		wantNormal(t, f.name, hi)
		if code != api.OK || value(lo).Cmp(low) != 0 || value(hi).Cmp(high) != 0 {
			t.Fatalf("%s of %d at %d with %d terms: %d, %d, error %d, want %d, %d", f.name, x, q, n, value(lo), value(hi), code, low, high)
		}
	}
}

func (f function) wantError(t *testing.T, x api.Int, q, n int) {
	t.Helper()
	lo, hi, code := f.call(x, q, n)
	if code != api.ErrArg || len(lo.Mag)+len(hi.Mag) > 0 || lo.Neg || hi.Neg {
		t.Fatalf("%s of %d at %d with %d terms: %v, %v, error %d, want 0, 0, error 1", f.name, value(x), q, n, lo, hi, code)
	}
}
