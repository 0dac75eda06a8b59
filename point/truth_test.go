package point

import (
	"math/big"
	"sync"
	"testing"

	"hairline/api"
)

// The values of the functions, computed far more finely than Look does, and in
// other ways than chapter 8 has.

// Exact values are at fineQ, and off by less than 2^slack of its units.
const (
	fineQ  = 2600
	slack  = 1500
	halves = 12 // so often is an argument halved ahead of a series
)

func multiply(x, y *big.Int) *big.Int {
	out := new(big.Int).Mul(x, y)
	return out.Rsh(out, fineQ)
}

func divide(x, y *big.Int) *big.Int {
	out := new(big.Int).Lsh(x, fineQ)
	return out.Quo(out, y)
}

// sumUp adds up terms until they vanish: each is the one before times factor, over
// the divisor.
func sumUp(term, factor *big.Int, divisor func(k int64) int64) *big.Int {
	out := new(big.Int)
	for k := int64(1); term.Sign() != 0; k++ {
		out.Add(out, term)
		next := new(big.Int).Mul(term, factor)
		term = next.Quo(next, new(big.Int).Lsh(whole(divisor(k)), fineQ))
	}
	return out
}

func exactExp(x *big.Int) *big.Int {
	out := sumUp(power2(fineQ), new(big.Int).Rsh(x, halves), func(k int64) int64 { return k })
	for range halves {
		out = multiply(out, out)
	}
	return out
}

// exactLn2 is the sum of all 1 / (k 2^k).
var exactLn2 = sync.OnceValue(func() *big.Int {
	out := new(big.Int)
	for k := 1; k <= fineQ; k++ {
		out.Add(out, new(big.Int).Quo(power2(fineQ-k), whole(int64(k))))
	}
	return out
})

// exactLog steps towards the number whose exponential is x: each step leaves but
// the third power of what lacked.
func exactLog(x *big.Int) *big.Int {
	e := x.BitLen() - 1 - fineQ
	out := new(big.Int).Mul(exactLn2(), whole(int64(e)))
	part := shifted(x, -e)
	rest := new(big.Int)
	for range 9 {
		now := exactExp(rest)
		step := divide(new(big.Int).Sub(part, now), new(big.Int).Add(part, now))
		rest.Add(rest, step.Lsh(step, 1))
	}
	return out.Add(out, rest)
}

// exactSinCos doubles the angle again and again.
func exactSinCos(x *big.Int) (*big.Int, *big.Int) {
	part := new(big.Int).Rsh(x, halves)
	square := negative(multiply(part, part))
	sine := sumUp(part, square, func(k int64) int64 { return 2 * k * (2*k + 1) })
	cosine := sumUp(power2(fineQ), square, func(k int64) int64 { return (2*k - 1) * 2 * k })
	for range halves {
		twice := multiply(sine, cosine)
		cosine = new(big.Int).Sub(multiply(cosine, cosine), multiply(sine, sine))
		sine = twice.Lsh(twice, 1)
	}
	return sine, cosine
}

// shifted is x times 2^n, rounded down.
func shifted(x *big.Int, n int) *big.Int {
	if n < 0 {
		return new(big.Int).Rsh(x, uint(-n))
	}
	return new(big.Int).Lsh(x, uint(n))
}

// exact is a number, and a k by which it has to be shifted to be the value of f at a
// pattern: the K of chapter 8.
func exact(f int, b uint64) (*big.Int, int) {
	m, e := valueOf(b)
	x := shifted(m, e+fineQ)
	switch f {
	case api.Exp:
		k := new(big.Int).Div(x, exactLn2()).Int64() // rounded down for a positive divisor
		return shifted(exactExp(x), int(-k)), int(k)
	case api.Exp2:
		k := shifted(m, e).Int64()
		return shifted(exactExp(multiply(x, exactLn2())), int(-k)), int(k)
	case api.Log:
		return exactLog(x), 0
	case api.Log2:
		return divide(exactLog(x), exactLn2()), 0
	}
	sine, cosine := exactSinCos(x)
	if f == api.Sin {
		return sine, 0
	}
	return cosine, 0
}

// exactBalls are the narrowest ones that contain the value, which is not exact.
func exactBalls(f int, b uint64) ballAt {
	y, k := exact(f, b)
	return func(q int) (ends, int) {
		lo := shifted(y, q-fineQ)
		return ends{lo, plus(lo, 1)}, k
	}
}

// For these patterns the balls of chapter 8 are as narrow as can be: all that Look
// returns can be told without it.
func TestI2ByTheValues(t *testing.T) {
	for f, name := range names() {
		t.Run(name, func(t *testing.T) {
			t.Parallel()
			all := []uint64{bitsOf(0.3), bitsOf(1.25), bitsOf(3.75), bitsOf(-100.5), bitsOf(-0x1.8p-20), bitsOf(1023.25), bitsOf(0x1.123p-30)}
			for _, c := range hardest() {
				all = append(all, c.b-1, c.b)
			}
			s := source(88172645463325252)
			for range 60 {
				all = append(all, uint64(s.upTo(1023-40, 1023+9))<<52|s.next()>>12, sign|uint64(s.upTo(1023-40, 1023+9))<<52|s.next()>>12)
			}
			for i, b := range all {
				if taken(f, b) {
					wantLook(t, f, b, 1+i%128, steps(exactBalls(f, b), 1+i%128))
				}
			}
		})
	}
}

// exactDistance is the distance of a value, at fineQ, and the E by which it is taken.
// A value that may be a power of 2 is taken for one.
func exactDistance(y *big.Int) (*big.Int, int) {
	size := new(big.Int).Abs(y)
	e := size.Add(size, power2(slack)).BitLen() - 1 - fineQ
	half := power2(fineQ + e - 53)
	after := new(big.Int).Mod(y, half)
	if before := new(big.Int).Sub(half, after); before.Cmp(after) < 0 {
		after = before
	}
	return shifted(after, 53-e), e
}

// atMost reports whether x is at most y, but for what exact values are off by.
func atMost(x, y *big.Int) bool {
	return new(big.Int).Sub(x, y).Cmp(power2(slack)) <= 0
}

// The consequences: the value lies in the ball, it is hard if its distance is below
// 2^-m, and Least and Most have the distance between them.
func TestI2Consequences(t *testing.T) {
	for f, name := range names() {
		t.Run(name, func(t *testing.T) {
			t.Parallel()
			for i, b := range patterns(f) {
				wantConsequences(t, f, b, 1+i*37%128)
				wantConsequences(t, f, b, 1+i%4)
			}
		})
	}
}

func wantConsequences(t *testing.T, f int, b uint64, m int) {
	t.Helper()
	got, code := Look(f, b, m)
	y, k := exact(f, b)
	at := fineQ + got.K - k - got.Ball.Q
	if code != api.OK || !atMost(shifted(value(got.Ball.Lo), at), y) || !atMost(y, shifted(value(got.Ball.Hi), at)) {
		t.Fatalf("%s of %#x with m = %d: the value does not lie in %v, error %d", names()[f], b, m, got.Ball, code)
	}
	if got.S == 0 { // it counts as 0
		if !got.Hard || got.Ball.Q != 300 {
			t.Fatalf("%s of %#x with m = %d: %v", names()[f], b, m, got)
		}
		return
	}
	distance, e := exactDistance(y)
	if !atMost(power2(fineQ-m), distance) && !got.Hard {
		t.Fatalf("%s of %#x with m = %d: not hard, but it is near to a half", names()[f], b, m)
	}
	least, most := shifted(value(got.Least), fineQ-got.S), shifted(value(got.Most), fineQ-got.S)
	if got.E == e+k && !atMost(least, distance) || (got.E == e+k || got.Hard) && !atMost(distance, most) {
		t.Fatalf("%s of %#x with m = %d: the distance %d is not from %d to %d", names()[f], b, m, distance, least, most)
	}
	// The ball of a value that is beside a power of 2 may begin below it.
	if got.E != e+k && got.E != e+k-1 {
		t.Fatalf("%s of %#x with m = %d: E %d, want %d", names()[f], b, m, got.E, e+k)
	}
}

// The other ways give what was computed without them, and so does Look: a
// logarithm, cosine or sine that is known to be hard among them.
func TestI2Samples(t *testing.T) {
	for _, c := range []struct {
		f           int
		b           uint64
		m           int
		lo          string
		q, k, e, s  int
		least, most string
		hard        bool
	}{
		{api.Exp, 0x3ff0000000000000, 10, "56fc2a2c515da54d57ee2b10139e9e78ec5ce2c1e71", 170, 1, 1, 117, "b2a811d4efec61618713a31d3e18e", "b2a811d4efec61618713a31d3e18f", false},
		{api.Exp, 0xbff0000000000000, 1, "2f16ac6c59de6f8d5d6f63c1482a7c86ed4c02d55", 161, -2, -2, 108, "72a2909c3eb7d5837912b3fd2aa", "72a2909c3eb7d5837912b3fd2ab", true},
		{api.Exp, 0x4085e40000000000, 128, "18625c7d4f56c27323c0c503065c145f56268bdb098b8f2115eabf5a09eeec8cb71eeedad", 288, 1010, 1010, 235, "cdc3f3afcf9a3eba0a9d97424f67470deea1540a5f611137348e111252", "cdc3f3afcf9a3eba0a9d97424f67470deea1540a5f611137348e111253", false},
		{api.Exp, 0xc08f420000000000, 40, "1ec9ab20e2c58d44065ec448ad800b94ac9efd17a821326ab00", 200, -1444, -1444, 147, "3bf9a13bb7527ff46b536102e857decd954ff", "3bf9a13bb7527ff46b536102e857decd95500", false},
		{api.Exp, 0xbe4ed318efb627ea, 59, "ffffffc259ce27ffffffffffffff8bfa084228447c357c1bafd8c56", 219, -1, -1, 166, "7405f7bdd7bb83ca83e450273a9", "7405f7bdd7bb83ca83e450273aa", true},
		{api.Exp2, 0x3fe0000000000000, 1, "2d413cccfe779921165f626cdd52afa7c75bd82ea", 161, 0, 0, 108, "21165f626cdd52afa7c75bd82ea", "21165f626cdd52afa7c75bd82eb", true},
		{api.Exp2, 0xc08f420000000000, 33, "35d13f32b5a75abd0e69a2ee640b4ff7875ccebd488162c5a", 193, -1001, -1001, 140, "42f1965d119bf4b00878a33142b77e9d3a5", "42f1965d119bf4b00878a33142b77e9d3a6", false},
		{api.Exp2, 0x3f5e4596526bf94d, 60, "10053fc2ec2b537ffffffffffffff4faf4666640c7f2e189fb26f1de", 220, 0, 0, 167, "b050b9999bf380d1e7604d90e21", "b050b9999bf380d1e7604d90e22", false},
		{api.Log, 0x4024000000000000, 128, "24d763776aaa2b05ba95b58ae0b4c28a38a3fb3e76977e43a0f187a0807c0b5ca58bc0b5e", 288, 0, 1, 236, "5ba95b58ae0b4c28a38a3fb3e76977e43a0f187a0807c0b5ca58bc0b5e", "5ba95b58ae0b4c28a38a3fb3e76977e43a0f187a0807c0b5ca58bc0b5f", false},
		{api.Log, 0x3fe0000000000000, 7, "-b17217f7d1cf79abc9e3b39803f2f6af40f3432673", 168, 0, -1, 114, "1abc9e3b39803f2f6af40f3432672", "1abc9e3b39803f2f6af40f3432673", false},
		{api.Log, 0x3ff0000000000001, 20, "1fffffffffffff0000000000000aaaaaaaaaaaaa2aaaaa", 233, 0, -53, 127, "aaaaaaaaaaaaa2aaaaa", "aaaaaaaaaaaaa2aaaab", true},
		{api.Log, 0x3fefffffffffffff, 52, "-10000000000000400000000000015555555555555d555555555556", 265, 0, -53, 159, "3ffffffffffffeaaaaaaaaaaaaa2aaaaaaaaaaaa", "3ffffffffffffeaaaaaaaaaaaaa2aaaaaaaaaaab", false},
		{api.Log, 0x6a562a88613629b6, 64, "1d6479eba7c971000000000000000073478a9fd48cba546580a1fd2721a", 224, 0, 8, 179, "73478a9fd48cba546580a1fd2721a", "73478a9fd48cba546580a1fd2721b", true},
		{api.Log, 0x6a562a88613629b6, 65, "3ac8f3d74f92e20000000000000000e68f153fa91974a8cb0143fa4e435", 225, 0, 8, 180, "e68f153fa91974a8cb0143fa4e435", "e68f153fa91974a8cb0143fa4e436", false},
		{api.Log2, 0x4008000000000000, 20, "195c01a39fbd6879fa00b120a068badd124f3e6a3a259b", 180, 0, 0, 127, "605ff4edf5f974522edb0c195c5da64", "605ff4edf5f974522edb0c195c5da65", false},
		{api.Log2, 0x3fd3333333333333, 100, "-1bca9c6f53897a83265e05133afe77486bac0c98574fbb1c35a6af969797f7ca89", 260, 0, 0, 207, "3265e05133afe77486bac0c98574fbb1c35a6af969797f7ca88", "3265e05133afe77486bac0c98574fbb1c35a6af969797f7ca89", false},
		{api.Log2, 0x5ff61555f75885b4, 55, "1003b81681e9b9ffffffffffffff3a3be28df906c34ede19823141f75", 215, 0, 9, 171, "c5c41d7206f93cb121e67dcebe08a", "c5c41d7206f93cb121e67dcebe08b", true},
		{api.Sin, 0x3ff0000000000000, 53, "35daa91e1219dc0831ba7a427143cf0ca2794444cbd462d37bedb2", 214, 0, -1, 160, "831ba7a427143cf0ca2794444cbd462d37bedb2", "831ba7a427143cf0ca2794444cbd462d37bedb3", false},
		{api.Sin, 0xbf60000000000000, 3, "-fffff5555577777743743771affe733b804da76af", 173, 0, -10, 110, "88bc8bc88e50018cc47fb258951", "88bc8bc88e50018cc47fb258952", false},
		{api.Sin, 0xc059000000000000, 64, "103425b78c4db80708f6155d083eb21c6af124aa19d42ae8409b3e860", 225, 0, -1, 171, "708f6155d083eb21c6af124aa19d42ae8409b3e860", "708f6155d083eb21c6af124aa19d42ae8409b3e861", false},
		{api.Sin, 0x3ebe0000000001c2, 72, "1dfffffffff02e000000000000000000772e9a4924949d0d95b6d9d8ffb", 252, 0, -20, 179, "772e9a4924949d0d95b6d9d8ffb", "772e9a4924949d0d95b6d9d8ffc", true},
		{api.Sin, 0xbfdfe767739d0f6d, 66, "-7a6541cc311a57ffffffffffffffff0ba4654a1e02007cd2fecffe0b3", 228, 0, -2, 173, "f45b9ab5e1fdff832d013001f4d", "f45b9ab5e1fdff832d013001f4e", false},
		{api.Cos, 0x4000000000000000, 64, "-1aa22657537204a4332f8acbb72b0d76834460d0deba71a4be0283970", 226, 0, -2, 171, "24332f8acbb72b0d76834460d0deba71a4be028396f", "24332f8acbb72b0d76834460d0deba71a4be0283970", false},
		{api.Cos, 0xc08ffc0000000000, 128, "194b9b627e3d8a99080aae13c811a741febabd3eeab172969bd659941b5e5f6de3d3ebfd9", 289, 0, -1, 235, "19080aae13c811a741febabd3eeab172969bd659941b5e5f6de3d3ebfd9", "19080aae13c811a741febabd3eeab172969bd659941b5e5f6de3d3ebfda", false},
		{api.Cos, 0x3ff921fb54442d18, 90, "469898cc51701b839a252049c11067ea04ddaff9c03d05618aa4977a74c1221", 304, 0, -54, 197, "7c65dadfb63eef9815fb2250063fc2fa9e755b68858b3edde", "7c65dadfb63eef9815fb2250063fc2fa9e755b68858b3eddf", false},
		{api.Cos, 0x3e88000000000009, 88, "1fffffffffff7000000000000000000000006d5999999999b1083a83a83a653", 249, 0, -1, 195, "6d5999999999b1083a83a83a653", "6d5999999999b1083a83a83a654", true},
	} {
		want := finding{q: c.q, k: c.k, e: c.e, s: c.s, least: number(c.least), most: number(c.most), hard: c.hard}
		want.ball = ends{number(c.lo), plus(number(c.lo), 1)}
		wantLook(t, c.f, c.b, c.m, want)
		if again := steps(exactBalls(c.f, c.b), c.m); again.ball.lo.Cmp(want.ball.lo) != 0 || again.least.Cmp(want.least) != 0 {
			t.Errorf("%s of %#x: the other way gives %d", names()[c.f], c.b, again.ball.lo)
		}
	}
}

// number reads hexadecimal digits.
func number(digits string) *big.Int {
	out, ok := new(big.Int).SetString(digits, 16)
	if !ok {
		panic("not a number: " + digits)
	}
	return out
}
