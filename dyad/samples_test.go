package dyad

import (
	"math/big"
	"slices"
	"testing"

	"hairline/api"
)

const (
	full     = 1<<64 - 1
	greatest = int(^uint(0) >> 1)
	least    = -greatest - 1
)

// argBias and gotBias turn arguments and results into integers: no argument has
// an E below -4000 that matters, and no result has one below -8000.
const (
	argBias = 8000
	gotBias = 2 * argBias
)

// source is a xorshift generator: the same dyads at each run.
type source uint64

func (s *source) next() uint64 {
	x := uint64(*s)
	x ^= x << 13
	x ^= x >> 7
	x ^= x << 17
	*s = source(x)
	return x
}

// integer makes an integer of up to five limbs: its ends are zero limbs now and
// then.
func (s *source) integer() api.Int {
	mag := make([]uint64, s.next()%6)
	for i := range mag {
		if pick := s.next(); pick%4 > 0 {
			mag[i] = s.next() << (pick / 4 % 64)
		}
	}
	return api.Int{Neg: s.next()%2 == 0, Mag: mag}
}

func (s *source) dyad() api.Dyad {
	return api.Dyad{M: s.integer(), E: int(s.next()%8021) - 4010}
}

// edgeE are exponents around those at which a dyad begins to count as 0.
func edgeE() []int {
	return []int{least, -8001, -4001, -4000, -3999, -64, -2, -1, 0, 1, 63, 64, 3999, 4000, 4001, 8001, greatest}
}

// edgeMags are magnitudes at which a normal form goes wrong first: even ones,
// zero limbs at both ends, and more zero bits than a shift of zed covers.
func edgeMags() [][]uint64 {
	deep := append(make([]uint64, 140), 40)
	return [][]uint64{nil, {}, {0, 0}, {1}, {2}, {3, 0}, {12}, {12, 0, 0}, {1 << 63}, {full}, {full - 1, full}, {0, 1}, {0, 0, 6, 0}, {1, 1}, {0, 1 << 63, 7}, deep}
}

func samples() []api.Dyad {
	var out []api.Dyad
	for _, mag := range edgeMags() {
		for _, e := range edgeE() {
			out = append(out, api.Dyad{M: api.Int{Mag: mag}, E: e}, api.Dyad{M: api.Int{Neg: true, Mag: mag}, E: e})
		}
	}
	s := source(2463534242)
	for range 100 {
		out = append(out, s.dyad())
	}
	return out
}

// pairs calls f with edge pairs, with small pairs, of which many are equal or
// cancel, and with mixed ones.
func pairs(f func(a, b api.Dyad)) {
	for x := int64(-5); x <= 5; x++ {
		for y := int64(-5); y <= 5; y++ {
			for e := -2; e <= 2; e++ {
				f(small(x, e), small(y, 0))
				f(small(x, -4000+e), small(y, -4000))
				f(small(x, 4000+e), small(y, 4000))
			}
		}
	}
	all := samples()
	s := source(88172645463325252)
	pick := func() api.Dyad { return all[s.next()%uint64(len(all))] }
	for range 4000 {
		f(pick(), pick())
		f(s.dyad(), s.dyad())
	}
}

// small makes a dyad without the package's help.
func small(m int64, e int) api.Dyad {
	if m < 0 {
		return api.Dyad{M: api.Int{Neg: true, Mag: []uint64{uint64(-m)}}, E: e}
	}
	return api.Dyad{M: api.Int{Mag: []uint64{uint64(m)}}, E: e}
}

// zeroForms are ways to write 0, and dyads that count as 0.
func zeroForms() []api.Dyad {
	out := []api.Dyad{{}}
	for _, e := range edgeE() {
		out = append(out, api.Dyad{E: e}, api.Dyad{M: api.Int{Neg: true}, E: e}, api.Dyad{M: api.Int{Neg: true, Mag: []uint64{0, 0}}, E: e})
	}
	for _, e := range []int{least, least + 1, -8192, -4002, -4001, 4001, 4002, 8192, greatest - 1, greatest} {
		out = append(out, small(1, e), small(-1, e), small(8, e), small(-3, e))
	}
	return out
}

// integerValue tells what an integer means by another arithmetic than the
// package's.
func integerValue(a api.Int) *big.Int {
	out := new(big.Int)
	for _, x := range slices.Backward(a.Mag) {
		out.Lsh(out, 64).Or(out, new(big.Int).SetUint64(x))
	}
	if a.Neg {
		out.Neg(out)
	}
	return out
}

// argValue is what an argument counts as, times 2^argBias.
func argValue(d api.Dyad) *big.Int {
	if d.E < -4000 || d.E > 4000 {
		return new(big.Int)
	}
	return shifted(integerValue(d.M), d.E+argBias)
}

func shifted(x *big.Int, n int) *big.Int {
	return new(big.Int).Lsh(x, uint(n))
}

func wantNormalInteger(t *testing.T, what string, got api.Int) {
	t.Helper()
	if n := len(got.Mag); n > 0 && got.Mag[n-1] == 0 {
		t.Fatalf("%s: leading zero limb in %x", what, got.Mag)
	}
	if len(got.Mag) == 0 && got.Neg {
		t.Fatalf("%s: Neg is set for 0", what)
	}
}

// wantValue asks for a normal form; want is the number times 2^gotBias.
func wantValue(t *testing.T, what string, got api.Dyad, want *big.Int) {
	t.Helper()
	wantNormalInteger(t, what, got.M)
	if len(got.M.Mag) == 0 && got.E != 0 {
		t.Fatalf("%s: 0 with E = %d", what, got.E)
	}
	if len(got.M.Mag) > 0 && got.M.Mag[0]%2 == 0 {
		t.Fatalf("%s: M of %v is even", what, got)
	}
	if got.E < -gotBias || got.E > 1<<20 {
		t.Fatalf("%s: E = %d", what, got.E)
	}
	if shifted(integerValue(got.M), got.E+gotBias).Cmp(want) != 0 {
		t.Fatalf("%s: got %d times 2^%d, want %d times 2^-%d", what, integerValue(got.M), got.E, want, gotBias)
	}
}

func wantDyad(t *testing.T, what string, got api.Dyad, m int64, e int) {
	t.Helper()
	wantNormalInteger(t, what, got.M)
	if got.E != e || integerValue(got.M).Cmp(big.NewInt(m)) != 0 {
		t.Fatalf("%s: got %d times 2^%d, want %d times 2^%d", what, integerValue(got.M), got.E, m, e)
	}
}

func wantInteger(t *testing.T, what string, got api.Int, want *big.Int) {
	t.Helper()
	wantNormalInteger(t, what, got)
	if integerValue(got).Cmp(want) != 0 {
		t.Fatalf("%s: got %d, want %d", what, integerValue(got), want)
	}
}
