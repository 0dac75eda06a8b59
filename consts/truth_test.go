package consts

import (
	"math/big"

	"hairline/api"
	"hairline/rows"
)

// The balls as the chapter describes them, step by step, and the two numbers by
// other series, more finely than any q asks for.

// exactQ is the q of the exact numbers; their error is below 2^slack there.
const (
	exactQ = 1100
	slack  = 14
)

func power(n int) *big.Int {
	return new(big.Int).Lsh(big.NewInt(1), uint(n))
}

// down is x / y, rounded down; big.Int's Div does so for a positive divisor.
func down(x, y *big.Int) *big.Int {
	return new(big.Int).Div(x, y)
}

func up(x, y *big.Int) *big.Int {
	out := down(new(big.Int).Neg(x), y)
	return out.Neg(out)
}

func scaled(x *big.Int, k int64) *big.Int {
	return new(big.Int).Mul(x, big.NewInt(k))
}

// ruleSums are LO of a function of chapter 6 at the lower part, and HI at the
// upper part.
func ruleSums(sum func(api.Int, int, int) (api.Int, api.Int, api.Errno), parts int64, w, n int) (*big.Int, *big.Int) {
	lower := down(power(w), big.NewInt(parts))
	upper := new(big.Int).Add(lower, big.NewInt(1))
	lo, _, codeLo := sum(integer(lower), w, n)
	_, hi, codeHi := sum(integer(upper), w, n)
	if codeLo != api.OK || codeHi != api.OK {
		panic("the sums of chapter 6 refuse the parts of the chapter")
	}
	return value(lo), value(hi)
}

func ruleLn2(w int) (*big.Int, *big.Int) {
	lo, hi := ruleSums(rows.Atanh, 3, w, w/3+2)
	return scaled(lo, 2), scaled(hi, 2)
}

func rulePi(w int) (*big.Int, *big.Int) {
	loA, hiA := ruleSums(rows.Atan, 5, w, w/9+2)
	loB, hiB := ruleSums(rows.Atan, 239, w, w/9+2)
	lo := new(big.Int).Sub(scaled(loA, 16), scaled(hiB, 4))
	hi := new(big.Int).Sub(scaled(hiA, 16), scaled(loB, 4))
	return lo, hi
}

// ruleRecast drops the places from w down to q, outwards.
func ruleRecast(lo, hi *big.Int, w, q int) (*big.Int, *big.Int) {
	return down(lo, power(w-q)), up(hi, power(w-q))
}

// exactLn2 is the sum of all 1 / (k 2^k). Each of its terms is off by less than
// 1, and the terms that are left out add up to less than 1.
func exactLn2() *big.Int {
	out := new(big.Int)
	for k := 1; k <= exactQ; k++ {
		out.Add(out, down(power(exactQ-k), big.NewInt(int64(k))))
	}
	return out
}

// exactPi is the sum of all (4/(8k+1) - 2/(8k+4) - 1/(8k+5) - 1/(8k+6)) / 16^k,
// as Bailey, Borwein and Plouffe found it.
func exactPi() *big.Int {
	out := new(big.Int)
	for k := range exactQ / 4 {
		for _, part := range [][2]int64{{1, 4}, {4, -2}, {5, -1}, {6, -1}} {
			out.Add(out, down(scaled(power(exactQ-4*k), part[1]), big.NewInt(int64(8*k)+part[0])))
		}
	}
	return out
}
