package bits

import (
	"math/big"
	"slices"
	"testing"

	"hairline/api"
)

const (
	full     = 1<<64 - 1
	sign     = 1 << 63
	unit     = 1 << 52 // how far the first patterns of two binades are apart
	greatest = int(^uint(0) >> 1)
	least    = -greatest - 1
)

// source is a xorshift generator: the same samples at each run.
type source uint64

func (s *source) next() uint64 {
	x := uint64(*s)
	x ^= x << 13
	x ^= x >> 7
	x ^= x << 17
	*s = source(x)
	return x
}

// patterns are those of all fields with the fractions at the ends, and mixed
// ones, each with both signs.
func patterns() []uint64 {
	var out []uint64
	for field := range uint64(2048) {
		for _, fraction := range []uint64{0, 1, 2, unit / 2, unit - 2, unit - 1} {
			out = append(out, field<<52|fraction, sign|field<<52|fraction)
		}
	}
	s := source(2463534242)
	for range 3000 {
		b := s.next()
		out = append(out, b, b&^(full>>1>>(s.next()%64)))
		// A field of 0 would hardly come up by itself.
		out = append(out, b&(sign|full>>12>>(s.next()%52)))
	}
	return out
}

// small makes a dyad without the help of the layers below.
func small(m int64, e int) api.Dyad {
	return made(big.NewInt(m), e)
}

func made(m *big.Int, e int) api.Dyad {
	d := api.Dyad{M: api.Int{Neg: m.Sign() < 0}, E: e}
	rest := new(big.Int).Abs(m)
	for rest.Sign() > 0 {
		d.M.Mag = append(d.M.Mag, new(big.Int).And(rest, new(big.Int).SetUint64(full)).Uint64())
		rest.Rsh(rest, 64)
	}
	return d
}

// power is 2^n for an n of any sign.
func power(n int) *big.Rat {
	one := big.NewInt(1)
	if n < 0 {
		return new(big.Rat).SetFrac(one, shifted(one, -n))
	}
	return new(big.Rat).SetInt(shifted(one, n))
}

func shifted(x *big.Int, n int) *big.Int {
	return new(big.Int).Lsh(x, uint(n))
}

// number is what a dyad argument counts as.
func number(d api.Dyad) *big.Rat {
	if d.E < -4000 || d.E > 4000 {
		return new(big.Rat)
	}
	return exact(d)
}

// exact is M times 2^E for any E.
func exact(d api.Dyad) *big.Rat {
	m := new(big.Int)
	for _, x := range slices.Backward(d.M.Mag) {
		m.Lsh(m, 64).Or(m, new(big.Int).SetUint64(x))
	}
	if d.M.Neg {
		m.Neg(m)
	}
	return new(big.Rat).Mul(new(big.Rat).SetInt(m), power(d.E))
}

// beside makes 2^n + by times 2^(n - depth).
func beside(n, depth int, by int64) api.Dyad {
	m := shifted(big.NewInt(1), depth)
	return made(m.Add(m, big.NewInt(by)), n-depth)
}

// forms are ways to write one dyad: as it is, with leading zero limbs, and with
// zero bits below it. Some have an E that counts as 0.
func forms(d api.Dyad) []api.Dyad {
	out := []api.Dyad{d, {M: api.Int{Neg: d.M.Neg, Mag: append(slices.Clone(d.M.Mag), 0, 0)}, E: d.E}}
	for _, n := range []int{1, 64, 130, 1200} {
		m := new(big.Int)
		for _, x := range slices.Backward(d.M.Mag) {
			m.Lsh(m, 64).Or(m, new(big.Int).SetUint64(x))
		}
		even := made(m.Lsh(m, uint(n)), d.E-n)
		even.M.Neg = d.M.Neg
		out = append(out, even)
	}
	return out
}

// zeroForms are ways to write 0, and dyads that count as 0.
func zeroForms() []api.Dyad {
	var out []api.Dyad
	for _, e := range []int{least, -4001, -4000, -1074, 0, 1023, 4000, 4001, greatest} {
		out = append(out, api.Dyad{E: e}, api.Dyad{M: api.Int{Neg: true}, E: e}, api.Dyad{M: api.Int{Neg: true, Mag: []uint64{0, 0}}, E: e})
	}
	for _, e := range []int{least, least + 1, -4001, 4001, greatest - 1, greatest} {
		out = append(out, small(1, e), small(-1, e), small(8, e), small(-3, e))
	}
	// As numbers these would be 1, 2^1000 and 2^-1000.
	return append(out, made(shifted(big.NewInt(1), 4001), -4001), made(shifted(big.NewInt(1), 6000), -5000), made(shifted(big.NewInt(-1), 4001), -5001))
}

// dyads are those around the numbers at which patterns begin and end, of few
// and of many significant bits, in all forms, and zero.
func dyads() []api.Dyad {
	var plain []api.Dyad
	for _, n := range []int{-4000, -1130, -1076, -1075, -1074, -1073, -1072, -1024, -1023, -1022, -1021, -64, -1, 0, 1, 64, 971, 1022, 1023, 1024, 1025, 4000} {
		for _, depth := range []int{0, 1, 2, 51, 52, 53, 54, 63, 64, 65, 128, 400, 2500} {
			for by := int64(-3); by <= 3; by++ {
				plain = append(plain, beside(n, depth, by))
			}
		}
	}
	s := source(88172645463325252)
	for range 600 {
		m := new(big.Int).SetUint64(s.next() >> (s.next() % 64))
		for range s.next() % 4 {
			m.Lsh(m, 64).Or(m, new(big.Int).SetUint64(s.next()))
		}
		plain = append(plain, made(m, int(s.next()%2400)-1200))
	}
	out := zeroForms()
	for _, d := range plain {
		for _, form := range forms(d) {
			out = append(out, form, api.Dyad{M: api.Int{Neg: !form.M.Neg, Mag: form.M.Mag}, E: form.E})
		}
	}
	return out
}

func wantPattern(t *testing.T, what string, arg any, got uint64, code api.Errno, want uint64) {
	t.Helper()
	if got != want || code != api.OK {
		t.Fatalf("%s, given %v: %#x, %d, want %#x", what, arg, got, code, want)
	}
}

func wantNoPattern(t *testing.T, what string, arg any, got uint64, code api.Errno) {
	t.Helper()
	if got != 0 || code != api.ErrArg {
		t.Fatalf("%s, given %v: %#x, %d, want ErrArg", what, arg, got, code)
	}
}

// wantDyad asks for a normal form.
func wantDyad(t *testing.T, what string, got api.Dyad, want *big.Rat) {
	t.Helper()
	mag := got.M.Mag
	if len(mag) == 0 && (got.M.Neg || got.E != 0) {
		t.Fatalf("%s: 0 as %v", what, got)
	}
	if len(mag) > 0 && (mag[len(mag)-1] == 0 || mag[0]%2 == 0) {
		t.Fatalf("%s: not in normal form: %v", what, got)
	}
	if exact(got).Cmp(want) != 0 {
		t.Fatalf("%s: got %v, want %v", what, got, want)
	}
}
