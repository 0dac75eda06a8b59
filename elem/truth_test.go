package elem

import (
	"math/big"
	"strconv"
	"sync"
	"testing"

	"hairline/api"
)

// The values of the functions, computed far more finely than any q asks for, and
// in other ways than the chapter's.

// Exact values are at fineQ. That of an exponential is off by less than its
// 2^-slack-th part, a sine or cosine by less than 2^-slack.
const (
	fineQ  = 3400
	slack  = 1600
	halves = 12 // so often is an argument halved ahead of a series
)

func multiply(x, y *big.Int) *big.Int {
	out := new(big.Int).Mul(x, y)
	return out.Rsh(out, fineQ)
}

// sumUp adds up terms until they vanish. Quotients are rounded by Quo, towards 0:
// negative terms would never vanish otherwise.
func sumUp(term *big.Int, factor *big.Int, divisor func(k int64) int64) *big.Int {
	out := new(big.Int)
	for k := int64(1); term.Sign() != 0; k++ {
		out.Add(out, term)
		term = new(big.Int).Quo(new(big.Int).Mul(term, factor), new(big.Int).Lsh(big.NewInt(divisor(k)), fineQ))
	}
	return out
}

func exactExp(x *big.Int) *big.Int {
	part := new(big.Int).Rsh(x, halves)
	out := sumUp(power(fineQ), part, func(k int64) int64 { return k })
	for range halves {
		out = multiply(out, out)
	}
	return out
}

// exactLn2 is the sum of all 1 / (k 2^k).
var exactLn2 = sync.OnceValue(func() *big.Int {
	out := new(big.Int)
	for k := 1; k <= fineQ; k++ {
		out.Add(out, divide(power(fineQ-k), big.NewInt(int64(k))))
	}
	return out
})

// exactSinCos doubles the angle again and again: the sine becomes twice the
// product, the cosine the difference of the squares.
func exactSinCos(x *big.Int) (*big.Int, *big.Int) {
	part := new(big.Int).Rsh(x, halves)
	square := multiply(part, part)
	square.Neg(square)
	sine := sumUp(part, square, func(k int64) int64 { return 2 * k * (2*k + 1) })
	cosine := sumUp(power(fineQ), square, func(k int64) int64 { return (2*k - 1) * 2 * k })
	for range halves {
		twice := multiply(sine, cosine)
		cosine = new(big.Int).Sub(multiply(cosine, cosine), multiply(sine, sine))
		sine = twice.Lsh(twice, 1)
	}
	return sine, cosine
}

// exactAt is x at fineQ.
func exactAt(x dyadic) *big.Int {
	return x.floor(fineQ)
}

// scaledEnds are the ends of a ball times 2^k, at fineQ.
func scaledEnds(b api.Ball, k int) (*big.Int, *big.Int) {
	return dyadic{value(b.Lo), k - b.Q}.floor(fineQ), dyadic{value(b.Hi), k - b.Q}.floor(fineQ)
}

// surrounds reports whether low and high have the exact number between them, but
// for what it is off by.
func surrounds(low, exact, high, off *big.Int) bool {
	return low.Cmp(new(big.Int).Add(exact, off)) <= 0 && high.Cmp(new(big.Int).Sub(exact, off)) >= 0
}

// holds reports whether the value of f at x lies in the ball times 2^k. For a
// logarithm, the exponentials of the ends must surround x.
func holds(f int, x dyadic, b api.Ball, k int) bool {
	exact := exactAt(x)
	low, high := scaledEnds(b, k)
	switch f {
	case api.Exp:
		exact = exactExp(exact)
	case api.Exp2:
		exact = exactExp(multiply(exact, exactLn2()))
	case api.Log:
		low, high = exactExp(low), exactExp(high)
	case api.Log2:
		low, high = exactExp(multiply(low, exactLn2())), exactExp(multiply(high, exactLn2()))
	case api.Sin:
		exact, _ = exactSinCos(exact)
		return surrounds(low, exact, high, power(fineQ-slack))
	case api.Cos:
		_, exact = exactSinCos(exact)
		return surrounds(low, exact, high, power(fineQ-slack))
	}
	return surrounds(low, exact, high, new(big.Int).Rsh(exact, slack))
}

// The consequences: the value lies in the ball, and the balls for different q
// have a common number.
func TestValuesLieInTheBalls(t *testing.T) {
	for f := range names() {
		for _, w := range []int{41, 110, 840} {
			t.Run(names()[f]+" at w = "+strconv.Itoa(w), func(t *testing.T) {
				t.Parallel()
				for i, x := range placeAt(w).arguments(f) {
					if i%3 > 0 { // these take long
						continue
					}
					q := []int{w - 40, i % 8, w - 40, i * 19 % 801}[i%4]
					b, k := at(t, f, x, q)
					if !holds(f, x, b, k) {
						t.Fatalf("%s of %v at %d: it does not lie from %d to %d, K %d", names()[f], x, q, value(b.Lo), value(b.Hi), k)
					}
				}
			})
		}
	}
}

func TestBallsForDifferentQMeet(t *testing.T) {
	qs := []int{0, 1, 2, 3, 8, 30, 63, 64, 65, 200, 450, 800}
	for f := range names() {
		t.Run(names()[f], func(t *testing.T) {
			t.Parallel()
			for i, x := range placeAt(70).arguments(f) {
				var greatestLow, leastHigh *big.Int
				for _, q := range qs {
					if q > 70 && i%5 > 0 { // these take long
						continue
					}
					b, k := at(t, f, x, q)
					low, high := scaledEnds(b, k)
					if greatestLow == nil || low.Cmp(greatestLow) > 0 {
						greatestLow = low
					}
					if leastHigh == nil || high.Cmp(leastHigh) < 0 {
						leastHigh = high
					}
				}
				if greatestLow.Cmp(leastHigh) > 0 {
					t.Fatalf("%s of %v: no number is in all balls", names()[f], x)
				}
			}
		})
	}
}

// The balls are narrow: what the steps lose is less than the places that are
// dropped.
func TestBallsAreNarrow(t *testing.T) {
	for f := range names() {
		for _, q := range []int{0, 8, 100} {
			for _, x := range placeAt(q + 40).arguments(f) {
				b, _ := at(t, f, x, q)
				if width := new(big.Int).Sub(value(b.Hi), value(b.Lo)); width.Cmp(big.NewInt(2)) > 0 {
					t.Fatalf("%s of %v at %d: %d places wide", names()[f], x, q, width)
				}
			}
		}
	}
}

// The other ways give the well-known decimal places.
func TestExactValues(t *testing.T) {
	sine, cosine := exactSinCos(power(fineQ))
	ten40 := new(big.Int).Exp(big.NewInt(10), big.NewInt(40), nil)
	for i, digits := range []string{
		"27182818284590452353602874713526624977572",
		"6931471805599453094172321214581765680755",
		"8414709848078965066525023216302989996225",
		"5403023058681397174009366074429766037323",
	} {
		got := multiply([]*big.Int{exactExp(power(fineQ)), exactLn2(), sine, cosine}[i], ten40)
		if got.String() != digits {
			t.Errorf("exact value %d is %s, want %s", i, got, digits)
		}
	}
}
