package polyz

import "math/big"

// What the package computes, by other ways and in another arithmetic.

func coefficient(p list, i int) *big.Int {
	if i < 0 || i >= len(p) {
		return new(big.Int)
	}
	return p[i]
}

func plus(p, q list) list {
	out := make(list, max(len(p), len(q)))
	for i := range out {
		out[i] = new(big.Int).Add(coefficient(p, i), coefficient(q, i))
	}
	return cut(out)
}

func scaled(p list, c *big.Int) list {
	out := make(list, len(p))
	for i := range out {
		out[i] = new(big.Int).Mul(p[i], c)
	}
	return cut(out)
}

func minus(p, q list) list {
	return plus(p, scaled(q, whole(-1)))
}

// product collects, for each power, the pairs of coefficients that lead to it.
func product(p, q list) list {
	out := make(list, len(p)+len(q))
	for n := range out {
		out[n] = new(big.Int)
		for i := range n + 1 {
			out[n].Add(out[n], new(big.Int).Mul(coefficient(p, i), coefficient(q, n-i)))
		}
	}
	return cut(out)
}

// raised is x to the power n.
func raised(x *big.Int, n int) *big.Int {
	return new(big.Int).Exp(x, whole(int64(n)), nil)
}

func valueAt(p list, x *big.Int) *big.Int {
	out := new(big.Int)
	for i, c := range p {
		out.Add(out, new(big.Int).Mul(c, raised(x, i)))
	}
	return out
}

// shifted takes the powers of x + a from the binomial theorem.
func shifted(p list, a *big.Int) list {
	out := make(list, len(p))
	for k := range out {
		out[k] = new(big.Int)
		for i := k; i < len(p); i++ {
			term := new(big.Int).Binomial(int64(i), int64(k))
			term.Mul(term, raised(a, i-k))
			out[k].Add(out[k], term.Mul(term, p[i]))
		}
	}
	return cut(out)
}

func stretched(p list, c *big.Int) list {
	out := make(list, len(p))
	for i := range out {
		out[i] = new(big.Int).Mul(p[i], raised(c, i))
	}
	return cut(out)
}

func derived(p list) list {
	out := make(list, max(0, len(p)-1))
	for i := range out {
		out[i] = new(big.Int).Mul(p[i+1], whole(int64(i+1)))
	}
	return cut(out)
}

// quotient is the polynomial with rational coefficients by which q, which is not 0,
// must be multiplied to leave a rest of a lower degree than that of q, and that rest.
func quotient(p, q list) (fractions, fractions) {
	rest, divisor := rational(p), rational(q)
	out := make(fractions, max(0, len(p)-len(q)+1))
	for len(rest) >= len(divisor) {
		n := len(rest) - len(divisor)
		out[n] = new(big.Rat).Quo(rest[len(rest)-1], divisor[len(divisor)-1])
		for i, c := range divisor {
			rest[n+i] = new(big.Rat).Sub(rest[n+i], new(big.Rat).Mul(out[n], c))
		}
		rest = rest.cut()
	}
	for i := range out {
		if out[i] == nil {
			out[i] = new(big.Rat)
		}
	}
	return out, rest
}

// fractions is a polynomial with rational coefficients.
type fractions []*big.Rat

func rational(p list) fractions {
	out := make(fractions, len(p))
	for i := range out {
		out[i] = new(big.Rat).SetInt(p[i])
	}
	return out
}

func (p fractions) cut() fractions {
	for len(p) > 0 && p[len(p)-1].Sign() == 0 {
		p = p[:len(p)-1]
	}
	return p
}

// whole is p as a polynomial over the integers, and whether it is one.
func (p fractions) whole() (list, bool) {
	out := make(list, len(p))
	for i, c := range p {
		if !c.IsInt() {
			return nil, false
		}
		out[i] = c.Num()
	}
	return cut(out), true
}

// primitive is p times the number that turns it into a polynomial over the integers
// without a common divisor, and with a positive leading coefficient.
func (p fractions) primitive() list {
	common := whole(1)
	for _, c := range p {
		common.Mul(common, c.Denom())
	}
	cleared := make(list, len(p))
	for i, c := range p {
		cleared[i] = new(big.Int).Mul(c.Num(), new(big.Int).Quo(common, c.Denom()))
	}
	return primitive(cleared)
}

func content(p list) *big.Int {
	out := new(big.Int)
	for _, c := range p {
		out.GCD(nil, nil, out, new(big.Int).Abs(c))
	}
	return out
}

func primitive(p list) list {
	divisor := content(p)
	if len(p) > 0 && p[len(p)-1].Sign() < 0 {
		divisor.Neg(divisor)
	}
	out := make(list, len(p))
	for i, c := range p {
		out[i] = new(big.Int).Quo(c, divisor)
	}
	return out
}

// divides tells whether there is a polynomial over the integers by which q is to be
// multiplied to get p, and returns it for a q that is not 0.
func divides(q, p list) (list, bool) {
	if len(q) == 0 {
		return nil, len(p) == 0
	}
	t, rest := quotient(p, q)
	if len(rest) > 0 {
		return nil, false
	}
	return t.whole()
}

// greatest is the greatest common divisor, by Euclid's algorithm over the rational
// numbers.
func greatest(p, q list) list {
	common := new(big.Int).GCD(nil, nil, content(p), content(q))
	for len(q) > 0 {
		_, rest := quotient(p, q)
		p, q = q, rest.primitive()
	}
	return scaled(primitive(p), common)
}

// simplest is p without its multiple roots.
func simplest(p list) list {
	if len(p) == 0 {
		return nil
	}
	t, _ := quotient(p, greatest(p, derived(p)))
	return t.primitive()
}
