package nat

import (
	"math/big"
	"slices"
	"testing"
)

const full = 1<<64 - 1

// edgeLimbs are limbs at which carries, borrows and guessed quotients go wrong first.
var edgeLimbs = []uint64{0, 1, 2, 1<<32 - 1, 1 << 32, 1<<63 - 1, 1 << 63, 1<<63 + 1, full - 1, full}

// source is a xorshift generator: the same limbs at each run.
type source uint64

func (s *source) next() uint64 {
	x := uint64(*s)
	x ^= x << 13
	x ^= x >> 7
	x ^= x << 17
	*s = source(x)
	return x
}

// list makes n limbs, about half of them edge limbs.
func (s *source) list(n int) []uint64 {
	out := make([]uint64, n)
	for i := range out {
		out[i] = s.next()
		if pick := s.next(); pick%2 == 0 {
			out[i] = edgeLimbs[pick/2%uint64(len(edgeLimbs))]
		}
	}
	return out
}

// samples are numbers of 0 to 3 edge limbs, and longer mixed ones. Many have leading zero limbs.
func samples() [][]uint64 {
	out := [][]uint64{nil, {}, {0, 0, 0, 0}}
	for _, x := range edgeLimbs {
		out = append(out, []uint64{x})
		for _, y := range edgeLimbs {
			out = append(out, []uint64{x, y})
		}
	}
	s := source(2463534242)
	for n := range 40 {
		out = append(out, s.list(n/4+1), append(s.list(n/4+1), 0, 0))
	}
	return out
}

// pairs calls f with each pair of samples, and with longer mixed pairs.
func pairs(f func(a, b []uint64)) {
	all := samples()
	for _, a := range all {
		for _, b := range all {
			f(a, b)
		}
	}
	s := source(88172645463325252)
	for range 3000 {
		f(s.list(int(s.next()%24)), s.list(int(s.next()%12)))
	}
}

// value tells what a list means by another arithmetic than the package's.
func value(a []uint64) *big.Int {
	out := new(big.Int)
	for _, x := range slices.Backward(a) {
		out.Lsh(out, 64).Or(out, new(big.Int).SetUint64(x))
	}
	return out
}

func wantNumber(t *testing.T, what string, got []uint64, want *big.Int) {
	t.Helper()
	if len(got) > 0 && got[len(got)-1] == 0 {
		t.Fatalf("%s: leading zero limb in %x", what, got)
	}
	if value(got).Cmp(want) != 0 {
		t.Fatalf("%s: got %x, want %x", what, value(got), want)
	}
}

func wantLimbs(t *testing.T, what string, got []uint64, want ...uint64) {
	t.Helper()
	if !slices.Equal(got, want) {
		t.Errorf("%s: got limbs %x, want %x", what, got, want)
	}
}
