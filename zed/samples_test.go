package zed

import (
	"math/big"
	"slices"
	"testing"

	"hairline/api"
)

const (
	full  = 1<<64 - 1
	least = -1 << 63
	most  = 1<<63 - 1
)

// edgeLimbs are magnitudes at which signs, ranges and carries go wrong first.
var edgeLimbs = []uint64{0, 1, 2, 3, 10, 1<<32 - 1, 1 << 32, 1<<63 - 1, 1 << 63, 1<<63 + 1, 9999999999999999999, 10000000000000000000, full - 1, full}

// source is a xorshift generator: the same integers at each run.
type source uint64

func (s *source) next() uint64 {
	x := uint64(*s)
	x ^= x << 13
	x ^= x >> 7
	x ^= x << 17
	*s = source(x)
	return x
}

// list makes n limbs, about half of them edge limbs.
func (s *source) list(n int) []uint64 {
	out := make([]uint64, n)
	for i := range out {
		out[i] = s.next()
		if pick := s.next(); pick%2 == 0 {
			out[i] = edgeLimbs[pick/2%uint64(len(edgeLimbs))]
		}
	}
	return out
}

func (s *source) integer(n int) api.Int {
	return api.Int{Neg: s.next()%2 == 0, Mag: s.list(n)}
}

// samples are integers of both signs: edge limbs, with leading zero limbs too,
// and longer mixed ones. Some are 0 with Neg set.
func samples() []api.Int {
	mags := [][]uint64{nil, {}, {0, 0, 0}}
	for _, x := range edgeLimbs {
		mags = append(mags, []uint64{x}, []uint64{x, 0}, []uint64{0, x}, []uint64{x, 1}, []uint64{x, full})
	}
	s := source(2463534242)
	for n := range 12 {
		mags = append(mags, s.list(n/2+2), append(s.list(n/2+2), 0, 0))
	}
	var out []api.Int
	for _, mag := range mags {
		out = append(out, api.Int{Mag: mag}, api.Int{Neg: true, Mag: mag})
	}
	return out
}

// pairs calls f with each pair of samples, with the small pairs, and with longer
// mixed pairs.
func pairs(f func(a, b api.Int)) {
	all := samples()
	for _, a := range all {
		for _, b := range all {
			f(a, b)
		}
	}
	for x := int64(-12); x <= 12; x++ {
		for y := int64(-7); y <= 7; y++ {
			f(small(x), small(y))
		}
	}
	s := source(88172645463325252)
	for range 1000 {
		f(s.integer(int(s.next()%16)), s.integer(int(s.next()%8)))
	}
}

// small makes an integer without the package's help.
func small(n int64) api.Int {
	if n < 0 {
		return api.Int{Neg: true, Mag: []uint64{uint64(-n)}}
	}
	return api.Int{Mag: []uint64{uint64(n)}}
}

// zeroForms are the ways to write 0.
func zeroForms() []api.Int {
	return []api.Int{{}, {Neg: true}, {Mag: []uint64{}}, {Mag: []uint64{0}}, {Neg: true, Mag: []uint64{0, 0, 0}}}
}

// value tells what an integer means by another arithmetic than the package's.
func value(a api.Int) *big.Int {
	out := new(big.Int)
	for _, x := range slices.Backward(a.Mag) {
		out.Lsh(out, 64).Or(out, new(big.Int).SetUint64(x))
	}
	if a.Neg {
		out.Neg(out)
	}
	return out
}

func wantValue(t *testing.T, what string, got api.Int, want *big.Int) {
	t.Helper()
	if n := len(got.Mag); n > 0 && got.Mag[n-1] == 0 {
		t.Fatalf("%s: leading zero limb in %x", what, got.Mag)
	}
	if len(got.Mag) == 0 && got.Neg {
		t.Fatalf("%s: Neg is set for 0", what)
	}
	if value(got).Cmp(want) != 0 {
		t.Fatalf("%s: got %d, want %d", what, value(got), want)
	}
}

func wantSmall(t *testing.T, what string, got api.Int, want int64) {
	t.Helper()
	wantValue(t, what, got, big.NewInt(want))
}

// wantNothing is for what stands beside a false.
func wantNothing(t *testing.T, what string, got api.Int, ok bool) {
	t.Helper()
	if ok || got.Neg || len(got.Mag) != 0 {
		t.Fatalf("%s: got %v, %v; want 0, false", what, got, ok)
	}
}
