package rows

import "math/big"

// The sums as the chapter writes them, term by term, and the values of the
// functions, computed far more finely than any q asks for.

// fine is the q of exact values; their error is below 2^slack there.
const (
	fine  = 2600
	slack = 16
)

func power(n int) *big.Int {
	return new(big.Int).Lsh(big.NewInt(1), uint(n))
}

func product(factors ...*big.Int) *big.Int {
	out := big.NewInt(1)
	for _, x := range factors {
		out.Mul(out, x)
	}
	return out
}

func plain(n int) *big.Int {
	return big.NewInt(int64(n))
}

// down is DOWN of x / y; big.Int's Div does so for a positive divisor.
func down(x, y *big.Int) *big.Int {
	return new(big.Int).Div(x, y)
}

// up is UP of x / y.
func up(x, y *big.Int) *big.Int {
	out := down(new(big.Int).Neg(x), y)
	return out.Neg(out)
}

func add(sum, x *big.Int) {
	sum.Add(sum, x)
}

// alternate is u(0) - v(1) + u(2) - .. - v(2n-1), and v(0) - u(1) + v(2) - .. -
// u(2n-1) + v(2n).
func alternate(u, v []*big.Int, n int) (*big.Int, *big.Int) {
	lo, hi := new(big.Int), new(big.Int)
	for k := 0; k < 2*n; k += 2 {
		lo.Add(lo, u[k]).Sub(lo, v[k+1])
		hi.Add(hi, v[k]).Sub(hi, u[k+1])
	}
	return lo, hi.Add(hi, v[2*n])
}

func ruleExp(t *big.Int, q, n int) (*big.Int, *big.Int) {
	a, b := []*big.Int{power(q)}, []*big.Int{power(q)}
	for k := 1; k <= n; k++ {
		a = append(a, down(product(a[k-1], t), product(plain(k), power(q))))
		b = append(b, up(product(b[k-1], t), product(plain(k), power(q))))
	}
	lo, hi := new(big.Int), product(plain(2), b[n])
	for k := range n {
		add(lo, a[k])
		add(hi, b[k])
	}
	return lo, hi
}

// oddTerms are c and d of F2, up to the last one.
func oddTerms(t *big.Int, q, last int) (c, d []*big.Int) {
	u, v := t, t
	for k := range last + 1 {
		if k > 0 {
			u, v = down(product(u, t, t), power(2*q)), up(product(v, t, t), power(2*q))
		}
		c, d = append(c, down(u, plain(2*k+1))), append(d, up(v, plain(2*k+1)))
	}
	return c, d
}

func ruleAtanh(t *big.Int, q, n int) (*big.Int, *big.Int) {
	c, d := oddTerms(t, q, n)
	lo, hi := new(big.Int), product(plain(2), d[n])
	for k := range n {
		add(lo, c[k])
		add(hi, d[k])
	}
	return lo, hi
}

func ruleAtan(t *big.Int, q, n int) (*big.Int, *big.Int) {
	c, d := oddTerms(t, q, 2*n)
	return alternate(c, d, n)
}

func ruleSin(t *big.Int, q, n int) (*big.Int, *big.Int) {
	u, v := []*big.Int{t}, []*big.Int{t}
	for k := 1; k <= 2*n; k++ {
		by := product(plain(2*k), plain(2*k+1), power(2*q))
		u, v = append(u, down(product(u[k-1], t, t), by)), append(v, up(product(v[k-1], t, t), by))
	}
	return alternate(u, v, n)
}

func ruleCos(t *big.Int, q, n int) (*big.Int, *big.Int) {
	u, v := []*big.Int{power(q)}, []*big.Int{power(q)}
	for k := 1; k <= 2*n; k++ {
		by := product(plain(2*k-1), plain(2*k), power(2*q))
		u, v = append(u, down(product(u[k-1], t, t), by)), append(v, up(product(v[k-1], t, t), by))
	}
	return alternate(u, v, n)
}

// exactSum adds up terms at fine until they vanish. At most some 1300 of them are
// off by some 2 each, so the error is below 2^slack. Quotients are rounded by Quo,
// towards 0: negative terms would never vanish otherwise.
func exactSum(first *big.Int, after func(term *big.Int, k int) *big.Int, part func(term *big.Int, k int) *big.Int) *big.Int {
	out, term := new(big.Int), first
	for k := 0; term.Sign() != 0; k++ {
		add(out, part(term, k))
		term = after(term, k+1)
	}
	return out
}

func itself(term *big.Int, k int) *big.Int {
	return term
}

func byOdd(term *big.Int, k int) *big.Int {
	return new(big.Int).Quo(term, plain(2*k+1))
}

func exactExp(x *big.Int) *big.Int {
	return exactSum(power(fine), func(term *big.Int, k int) *big.Int {
		return new(big.Int).Quo(product(term, x), product(plain(k), power(fine)))
	}, itself)
}

// bySquare goes on from x^k to sign x^(k+2).
func bySquare(x *big.Int, sign int) func(term *big.Int, k int) *big.Int {
	return func(term *big.Int, k int) *big.Int {
		return new(big.Int).Quo(product(term, x, x, plain(sign)), power(2*fine))
	}
}

func exactAtanh(x *big.Int) *big.Int {
	return exactSum(x, bySquare(x, 1), byOdd)
}

func exactAtan(x *big.Int) *big.Int {
	return exactSum(x, bySquare(x, -1), byOdd)
}

func exactSin(x *big.Int) *big.Int {
	return exactSum(x, func(term *big.Int, k int) *big.Int {
		return new(big.Int).Quo(bySquare(x, -1)(term, k), plain(2*k*(2*k+1)))
	}, itself)
}

func exactCos(x *big.Int) *big.Int {
	return exactSum(power(fine), func(term *big.Int, k int) *big.Int {
		return new(big.Int).Quo(bySquare(x, -1)(term, k), plain((2*k-1)*2*k))
	}, itself)
}
