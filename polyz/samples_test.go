package polyz

import (
	"math/big"
	"slices"
	"testing"

	"hairline/api"
)

const full = 1<<64 - 1

// source is a xorshift generator: the same polynomials at each run.
type source uint64

func (s *source) next() uint64 {
	x := uint64(*s)
	x ^= x << 13
	x ^= x >> 7
	x ^= x << 17
	*s = source(x)
	return x
}

// integer makes an integer of up to so many bits; one in four is small, one in eight
// lies beside a power of 2^64.
func (s *source) integer(bits int) *big.Int {
	x := new(big.Int)
	for range bits/64 + 1 {
		x.Lsh(x, 64).Or(x, number(s.next()))
	}
	x.Rsh(x, uint(s.next()%uint64(bits)+64))
	switch s.next() % 8 {
	case 0, 1:
		x.SetUint64(s.next() % 4)
	case 2:
		x.Lsh(whole(1), 64*uint(s.next()%3))
		x.Add(x, whole(int64(s.next()%3)-1))
	}
	if s.next()%2 == 0 {
		x.Neg(x)
	}
	return x
}

// list makes a polynomial of the given degree. About one in three of its
// coefficients is 0.
func (s *source) list(degree, bits int) list {
	out := make(list, degree+1)
	for i := range out {
		out[i] = s.integer(bits)
		if s.next()%3 == 0 {
			out[i] = new(big.Int)
		}
	}
	if out[degree].Sign() == 0 {
		out[degree] = whole(1)
	}
	return out
}

func number(x uint64) *big.Int {
	return new(big.Int).SetUint64(x)
}

func whole(n int64) *big.Int {
	return big.NewInt(n)
}

// list is a polynomial without zeros at its end, in another arithmetic than the
// program's.
type list []*big.Int

func small(l ...int64) list {
	out := make(list, len(l))
	for i, n := range l {
		out[i] = whole(n)
	}
	return cut(out)
}

// monomial is c times x to the power n.
func monomial(c int64, n int) list {
	return small(append(make([]int64, n), c)...)
}

func cut(p list) list {
	for len(p) > 0 && p[len(p)-1].Sign() == 0 {
		p = p[:len(p)-1]
	}
	return p
}

func alike(p, q list) bool {
	return slices.EqualFunc(p, q, func(a, b *big.Int) bool { return a.Cmp(b) == 0 })
}

// integer makes an integer without the help of the layers below.
func integer(x *big.Int) api.Int {
	out := api.Int{Neg: x.Sign() < 0}
	rest := new(big.Int).Abs(x)
	for rest.Sign() > 0 {
		out.Mag = append(out.Mag, new(big.Int).And(rest, number(full)).Uint64())
		rest.Rsh(rest, 64)
	}
	return out
}

// value tells what an integer means.
func value(a api.Int) *big.Int {
	out := new(big.Int)
	for _, x := range slices.Backward(a.Mag) {
		out.Lsh(out, 64).Or(out, number(x))
	}
	if a.Neg {
		out.Neg(out)
	}
	return out
}

// made is p in normal form, made without the package's help.
func made(p list) api.Poly {
	var out api.Poly
	for _, c := range p {
		out = append(out, integer(c))
	}
	return out
}

func of(l ...int64) api.Poly {
	return made(small(l...))
}

// read tells which polynomial p is.
func read(p api.Poly) list {
	out := make(list, len(p))
	for i, c := range p {
		out[i] = value(c)
	}
	return cut(out)
}

// long adds leading zero limbs, and sets Neg for the value 0.
func long(a api.Int) api.Int {
	return api.Int{Neg: a.Neg || len(a.Mag) == 0, Mag: append(slices.Clone(a.Mag), 0, 0)}
}

// forms are ways to write one polynomial: in normal form, with zeros at the end,
// with coefficients that are not in normal form, and with both.
func forms(p list) []api.Poly {
	longer := made(p)
	for i := range longer {
		longer[i] = long(longer[i])
	}
	zeros := api.Poly{{}, {Neg: true}, {Mag: []uint64{0, 0}}, {Neg: true, Mag: []uint64{0}}}
	return []api.Poly{made(p), append(made(p), zeros[0]), longer, append(slices.Clone(longer), zeros...)}
}

// integerForms are ways to write one integer.
func integerForms(x *big.Int) []api.Int {
	return []api.Int{integer(x), long(integer(x))}
}

// smallLists are all polynomials of a degree up to 2 with coefficients from -2 to 2.
func smallLists() []list {
	var out []list
	for n := range int64(125) {
		out = append(out, small(n%5-2, n/5%5-2, n/25-2))
	}
	return out
}

// mixedLists have degrees up to 9, and coefficients of up to some 200 bits.
func mixedLists() []list {
	s := source(2463534242)
	out := []list{small(), small(7), monomial(-3, 9), cut(list{number(full), whole(-1), number(1 << 63)})}
	for degree := range 10 {
		out = append(out, s.list(degree, 6), s.list(degree, 70), s.list(degree, 200))
	}
	return out
}

// lists are small and mixed polynomials.
func lists() []list {
	return append(smallLists(), mixedLists()...)
}

// pairs calls f with each pair of small polynomials, and with each pair of mixed
// ones.
func pairs(f func(p, q list)) {
	for _, all := range [][]list{smallLists(), mixedLists()} {
		for _, p := range all {
			for _, q := range all {
				f(p, q)
			}
		}
	}
}

// points are arguments of polynomials: small ones, and ones of more than a limb.
func points() []*big.Int {
	out := []*big.Int{number(full), new(big.Int).Lsh(whole(-3), 64), new(big.Int).Lsh(whole(1), 150)}
	for n := range int64(9) {
		out = append(out, whole(n-4))
	}
	return out
}

func wantNormal(t *testing.T, what string, got api.Int) {
	t.Helper()
	if n := len(got.Mag); n > 0 && got.Mag[n-1] == 0 {
		t.Fatalf("%s: leading zero limb in %x", what, got.Mag)
	}
	if len(got.Mag) == 0 && got.Neg {
		t.Fatalf("%s: Neg is set for 0", what)
	}
}

func wantInteger(t *testing.T, what string, got api.Int, want *big.Int) {
	t.Helper()
	wantNormal(t, what, got)
	if value(got).Cmp(want) != 0 {
		t.Fatalf("%s: %d, want %d", what, value(got), want)
	}
}

func wantPoly(t *testing.T, what string, got api.Poly, want list) {
	t.Helper()
	for _, c := range got {
		wantNormal(t, what, c)
	}
	if n := len(got); n > 0 && len(got[n-1].Mag) == 0 {
		t.Fatalf("%s: a zero at the end of %v", what, got)
	}
	if !alike(read(got), want) {
		t.Fatalf("%s: %d, want %d", what, read(got), want)
	}
}

// wantNothing is for what stands beside an error.
func wantNothing(t *testing.T, what string, got api.Poly, code, want api.Errno) {
	t.Helper()
	if len(got) != 0 || code != want {
		t.Fatalf("%s: %v, error %d, want nothing and error %d", what, got, code, want)
	}
}
