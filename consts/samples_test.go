package consts

import (
	"math/big"
	"slices"
	"testing"

	"hairline/api"
)

const (
	full     = 1<<64 - 1
	greatest = int(^uint(0) >> 1)
	least    = -greatest - 1
)

// function is one of the package's, with what the chapter says about it.
type function struct {
	name  string
	call  func(q int) (api.Ball, api.Errno)
	fine  func(w int) api.Ball
	rule  func(w int) (lo, hi *big.Int) // the ball that is passed to Recast
	exact func() *big.Int               // at exactQ
}

func functions() []function {
	return []function{
		{"Ln2", Ln2, fineLn2, ruleLn2, exactLn2},
		{"Pi", Pi, finePi, rulePi, exactPi},
	}
}

// integer makes an integer without the help of the layers below.
func integer(x *big.Int) api.Int {
	out := api.Int{Neg: x.Sign() < 0}
	rest := new(big.Int).Abs(x)
	for rest.Sign() > 0 {
		out.Mag = append(out.Mag, new(big.Int).And(rest, new(big.Int).SetUint64(full)).Uint64())
		rest.Rsh(rest, 64)
	}
	return out
}

// value tells what an integer means by another arithmetic than the program's.
func value(a api.Int) *big.Int {
	out := new(big.Int)
	for _, x := range slices.Backward(a.Mag) {
		out.Lsh(out, 64).Or(out, new(big.Int).SetUint64(x))
	}
	if a.Neg {
		out.Neg(out)
	}
	return out
}

func wrongQ() []int {
	return []int{least, least + 1, -900, -17, -16, -15, -2, -1, 901, 902, 1184, 1185, 1200, 2032, 2048, 2049, greatest - 16, greatest - 15, greatest}
}

func wantNormal(t *testing.T, what string, got api.Int) {
	t.Helper()
	if n := len(got.Mag); n > 0 && got.Mag[n-1] == 0 {
		t.Fatalf("%s: leading zero limb in %x", what, got.Mag)
	}
	if len(got.Mag) == 0 && got.Neg {
		t.Fatalf("%s: Neg is set for 0", what)
	}
}

func wantBall(t *testing.T, what string, got api.Ball, lo, hi *big.Int, q int) {
	t.Helper()
	wantNormal(t, what, got.Lo)
	wantNormal(t, what, got.Hi)
	if got.Q != q || value(got.Lo).Cmp(lo) != 0 || value(got.Hi).Cmp(hi) != 0 {
		t.Fatalf("%s: %d to %d at %d, want %d to %d at %d", what, value(got.Lo), value(got.Hi), got.Q, lo, hi, q)
	}
}

// at calls the function with a q that is right.
func (f function) at(t *testing.T, q int) api.Ball {
	t.Helper()
	got, code := f.call(q)
	if code != api.OK {
		t.Fatalf("%s of %d: error %d", f.name, q, code)
	}
	return got
}

func (f function) wantError(t *testing.T, q int) {
	t.Helper()
	got, code := f.call(q)
	if code != api.ErrArg || got.Q != 0 || len(got.Lo.Mag)+len(got.Hi.Mag) > 0 || got.Lo.Neg || got.Hi.Neg {
		t.Fatalf("%s of %d: %v, error %d, want the zero ball, error 1", f.name, q, got, code)
	}
}
