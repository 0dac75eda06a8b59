package point

import (
	"math"

	"hairline/api"
)

// bitsOf is the pattern of a double that the compiler or package math makes.
func bitsOf(x float64) uint64 {
	return math.Float64bits(x)
}

// taken tells what chapter 8 takes: it has a value at each normal pattern but for
// those.
func taken(f int, b uint64) bool {
	x := math.Float64frombits(b)
	if f == api.Log || f == api.Log2 {
		return x > 0
	}
	return math.Abs(x) < 1024
}

// patterns are normal ones that chapter 8 takes for f.
func patterns(f int) []uint64 {
	var out []uint64
	for _, b := range append(special(), mixed()...) {
		for _, each := range []uint64{b, b | sign} {
			if taken(f, each) {
				out = append(out, each)
			}
		}
	}
	return out
}

// special are patterns of numbers at which values are doubles or lie beside them,
// or count as 0 or nearly so, or are great.
func special() []uint64 {
	var out []uint64
	for _, e := range []int{-1022, -500, -301, -300, -299, -298, -200, -151, -150, -101, -100, -64, -54, -53, -52, -28, -27, -10, -2, -1, 0, 1, 2, 3, 8, 9, 10, 512, 1023} {
		b := bitsOf(math.Ldexp(1, e))
		out = append(out, b, b+1, b+1<<51, b+1<<52-1)
	}
	for _, x := range []float64{3, 5, 7, 10, 100, 255.5, 700, 709.75, 1023, 1023.5, math.Nextafter(1024, 0), math.MaxFloat64} {
		out = append(out, bitsOf(x))
	}
	for _, x := range []float64{math.Pi / 2, math.Pi, 3 * math.Pi / 2, 2 * math.Pi, 100 * math.Pi, math.Ln2, math.E} {
		out = append(out, bitsOf(x)-1, bitsOf(x), bitsOf(x)+1)
	}
	for _, c := range hardest() {
		out = append(out, c.b-1, c.b, c.b+1)
	}
	return out
}

// mixed are patterns of any numbers, and of those that job searches later.
func mixed() []uint64 {
	s := source(2463534242)
	var out []uint64
	for range 20 {
		fraction := s.next() >> 12
		out = append(out, uint64(s.upTo(1, 2046))<<52|fraction, uint64(s.upTo(1023-64, 1023+9))<<52|fraction, uint64(s.upTo(1021, 1025))<<52|fraction)
	}
	return out
}

// known is a pattern whose value has a distance below 2^-t, but not below
// 2^-(t+1).
type known struct {
	f int
	b uint64
	t int
}

// hardest are patterns of which it is known how hard they are. The distances were
// computed without the program.
func hardest() []known {
	return []known{
		{api.Exp, 0xbe4ed318efb627ea, 59}, {api.Exp, 0x3e09e9cbbfd6080b, 57}, {api.Exp, 0x3feaccfbe46b4ef0, 54}, {api.Exp, 0x407c7206c1b753e4, 53},
		{api.Exp2, 0x3f5e4596526bf94d, 59},
		{api.Log, 0x6a562a88613629b6, 64},
		{api.Log2, 0x5ff61555f75885b4, 55}, {api.Log2, 0x3ffb4ebe40c95a01, 53},
		{api.Sin, 0x3ebe0000000001c2, 72}, {api.Sin, 0x3f8598bae9e632f6, 59}, {api.Sin, 0x3fdfe767739d0f6d, 65},
		{api.Cos, 0x3e88000000000009, 88}, {api.Cos, 0x3f606b505550e6b2, 58}, {api.Cos, 0x40034ec2f9fc9c00, 58}, {api.Cos, 0x3fe7cb7648526f99, 52},
	}
}
