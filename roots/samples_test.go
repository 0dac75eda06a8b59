package roots

import (
	"math/big"
	"slices"
	"strings"
	"testing"

	"hairline/api"
)

const full = 1<<64 - 1

// source is a xorshift generator: the same polynomials at each run.
type source uint64

func (s *source) next() uint64 {
	x := uint64(*s)
	x ^= x << 13
	x ^= x >> 7
	x ^= x << 17
	*s = source(x)
	return x
}

// integer makes an integer of up to so many bits; one in four is small.
func (s *source) integer(bits int) *big.Int {
	x := new(big.Int)
	for range bits/64 + 1 {
		x.Lsh(x, 64).Or(x, new(big.Int).SetUint64(s.next()))
	}
	x.Rsh(x, uint(s.next()%uint64(bits)+64))
	if s.next()%4 == 0 {
		x.SetUint64(s.next() % 4)
	}
	if s.next()%2 == 0 {
		x.Neg(x)
	}
	return x
}

// list makes a polynomial of the given degree. About one in three of its coefficients
// is 0.
func (s *source) list(degree, bits int) list {
	out := make(list, degree+1)
	for i := range out {
		out[i] = s.integer(bits)
		if s.next()%3 == 0 {
			out[i] = new(big.Int)
		}
	}
	if out[degree].Sign() == 0 {
		out[degree] = whole(-1)
	}
	return out
}

func whole(n int64) *big.Int {
	return big.NewInt(n)
}

// shifted is c times 2^n.
func shifted(c int64, n uint) *big.Int {
	return new(big.Int).Lsh(whole(c), n)
}

func plus(a *big.Int, n int64) *big.Int {
	return new(big.Int).Add(a, whole(n))
}

func negated(a *big.Int) *big.Int {
	return new(big.Int).Neg(a)
}

// list is a polynomial without zeros at its end, or a list of integers, in another
// arithmetic than the program's.
type list []*big.Int

func listOf(l ...int64) list {
	out := make(list, len(l))
	for i, n := range l {
		out[i] = whole(n)
	}
	return out
}

func cut(p list) list {
	for len(p) > 0 && p[len(p)-1].Sign() == 0 {
		p = p[:len(p)-1]
	}
	return p
}

// integer makes an integer without the help of the layers below.
func integer(x *big.Int) api.Int {
	out := api.Int{Neg: x.Sign() < 0}
	mask := new(big.Int).SetUint64(full)
	for rest := new(big.Int).Abs(x); rest.Sign() > 0; rest.Rsh(rest, 64) {
		out.Mag = append(out.Mag, new(big.Int).And(rest, mask).Uint64())
	}
	return out
}

// value tells what an integer means.
func value(a api.Int) *big.Int {
	out := new(big.Int)
	for _, x := range slices.Backward(a.Mag) {
		out.Lsh(out, 64).Or(out, new(big.Int).SetUint64(x))
	}
	if a.Neg {
		out.Neg(out)
	}
	return out
}

// made is p in normal form, made without the help of the layers below.
func made(p list) api.Poly {
	var out api.Poly
	for _, c := range p {
		out = append(out, integer(c))
	}
	return out
}

func of(l ...int64) api.Poly {
	return made(listOf(l...))
}

// long adds leading zero limbs, and sets Neg for the value 0.
func long(a api.Int) api.Int {
	return api.Int{Neg: a.Neg || len(a.Mag) == 0, Mag: append(slices.Clone(a.Mag), 0, 0)}
}

func zeros() api.Poly {
	return api.Poly{{}, {Neg: true}, {Mag: []uint64{0, 0}}, {Neg: true, Mag: []uint64{0}}}
}

// forms are ways to write one polynomial: in normal form, with zeros ahead of the
// leading coefficient, with coefficients that are not in normal form, and with both.
func forms(p list) []api.Poly {
	longer := made(p)
	for i := range longer {
		longer[i] = long(longer[i])
	}
	return []api.Poly{made(p), append(made(p), zeros()[0]), longer, append(slices.Clone(longer), zeros()...)}
}

// noughts are ways to write the polynomial 0.
func noughts() []api.Poly {
	return []api.Poly{nil, {}, zeros()[:1], zeros()[1:2], zeros()[2:3], zeros()[3:], zeros(), append(zeros(), zeros()...)}
}

// integerForms are ways to write one integer.
func integerForms(x *big.Int) []api.Int {
	return []api.Int{integer(x), long(integer(x))}
}

// smallLists are all polynomials but 0 of a degree up to 3 with coefficients from -2
// to 2.
func smallLists() []list {
	var out []list
	for n := range int64(625) {
		if p := cut(listOf(n%5-2, n/5%5-2, n/25%5-2, n/125-2)); len(p) > 0 {
			out = append(out, p)
		}
	}
	return out
}

func wantNormal(t *testing.T, what string, got api.Int) {
	t.Helper()
	if n := len(got.Mag); n > 0 && got.Mag[n-1] == 0 {
		t.Fatalf("%s: leading zero limb in %x", what, got.Mag)
	}
	if len(got.Mag) == 0 && got.Neg {
		t.Fatalf("%s: Neg is set for 0", what)
	}
}

func wantInteger(t *testing.T, what string, got api.Int, want *big.Int) {
	t.Helper()
	wantNormal(t, what, got)
	if value(got).Cmp(want) != 0 {
		t.Fatalf("%s: %d, want %d", what, value(got), want)
	}
}

// wantList is for results of Floors, In and All.
func wantList(t *testing.T, what string, got []api.Int, code api.Errno, want list) {
	t.Helper()
	if code != api.OK {
		t.Fatalf("%s: error %d", what, code)
	}
	read := make(list, len(got))
	for i := range got {
		wantNormal(t, what, got[i])
		read[i] = value(got[i])
	}
	if !slices.EqualFunc(read, want, func(a, b *big.Int) bool { return a.Cmp(b) == 0 }) {
		t.Fatalf("%s: %s, want %s", what, text(read), text(want))
	}
}

// wantNoList is for what stands beside an error.
func wantNoList(t *testing.T, what string, got []api.Int, code api.Errno) {
	t.Helper()
	if len(got) != 0 || code != api.ErrArg {
		t.Fatalf("%s: %v, error %d, want nothing and error %d", what, got, code, api.ErrArg)
	}
}

func text(l list) string {
	var out []string
	for _, x := range l {
		out = append(out, x.String())
	}
	return strings.Join(out, " ")
}
