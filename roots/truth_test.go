package roots

import (
	"math/big"
	"slices"
)

// The functions of this file find the same results by other ways: from roots of which
// a polynomial is built, or, for small bounds, by Descartes' rule of signs between each
// two integers.

func product(p, q list) list {
	out := make(list, len(p)+len(q))
	for i := range out {
		out[i] = new(big.Int)
	}
	for i := range p {
		for k := range q {
			out[i+k].Add(out[i+k], new(big.Int).Mul(p[i], q[k]))
		}
	}
	return cut(out)
}

func raised(p list, n int) list {
	out := listOf(1)
	for range n {
		out = product(out, p)
	}
	return out
}

func valueAt(p list, x *big.Int) *big.Int {
	out, factor := new(big.Int), whole(1)
	for _, c := range p {
		out.Add(out, new(big.Int).Mul(c, factor))
		factor = new(big.Int).Mul(factor, x)
	}
	return out
}

// put is p(a + b x).
func put(p list, a, b *big.Int) list {
	var out list
	for _, c := range slices.Backward(p) {
		out = product(out, list{a, b})
		if len(out) == 0 {
			out = listOf(0)
		}
		out[0] = new(big.Int).Add(out[0], c)
		out = cut(out)
	}
	return out
}

// root is one of a polynomial that is built: its floor, and whether that is the root
// itself. Different roots have different names.
type root struct {
	floor *big.Int
	exact bool
	name  string
}

// known is a polynomial and its real roots, where each may stand more than once.
type known struct {
	p     list
	roots []root
}

func times(factors ...known) known {
	out := known{p: listOf(1)}
	for _, f := range factors {
		out.p = product(out.p, f.p)
		out.roots = append(out.roots, f.roots...)
	}
	return out
}

// at has the root n with the given multiplicity.
func at(n *big.Int, multiplicity int) known {
	return known{raised(list{negated(n), whole(1)}, multiplicity), []root{{n, true, n.String()}}}
}

// fraction is (d x - n)^multiplicity.
func fraction(n, d *big.Int, multiplicity int) known {
	value := new(big.Rat).SetFrac(n, d)
	floor := new(big.Int).Div(value.Num(), value.Denom()) // rounds down: the divisor is positive
	return known{raised(list{negated(n), d}, multiplicity), []root{{floor, value.IsInt(), value.RatString()}}}
}

// surds is ((x - n)^2 - d)^multiplicity, where d is no square: n is the middle between
// the roots.
func surds(n, d *big.Int, multiplicity int) known {
	down := new(big.Int).Sqrt(d)
	low := plus(new(big.Int).Sub(n, down), -1)
	high := new(big.Int).Add(n, down)
	p := put(list{negated(d), new(big.Int), whole(1)}, negated(n), whole(1))
	name := n.String() + " and the root of " + d.String()
	return known{raised(p, multiplicity), []root{{low, false, "low: " + name}, {high, false, "high: " + name}}}
}

// none is (x - n)^2 + d, where d is positive: it has no real root.
func none(n, d *big.Int) known {
	return known{put(list{d, new(big.Int), whole(1)}, negated(n), whole(1)), nil}
}

func constant(c *big.Int) known {
	return known{p: list{c}}
}

// upTo reports whether the root is not greater than x.
func (r root) upTo(x *big.Int) bool {
	order := r.floor.Cmp(x)
	return order < 0 || order == 0 && r.exact
}

func (k known) count(a, b *big.Int) int {
	names := map[string]bool{}
	for _, r := range k.roots {
		if r.upTo(b) && !r.upTo(a) {
			names[r.name] = true
		}
	}
	return len(names)
}

// floors are those from lo to hi: of all roots, or of the exact ones alone.
func (k known) floors(lo, hi *big.Int, exact bool) list {
	var out list
	for _, r := range k.roots {
		if r.floor.Cmp(lo) >= 0 && r.floor.Cmp(hi) <= 0 && (r.exact || !exact) {
			out = append(out, r.floor)
		}
	}
	return sorted(out)
}

func (k known) all() list {
	far := whole(1)
	for _, r := range k.roots {
		far.Add(far, new(big.Int).Abs(r.floor))
	}
	return k.floors(negated(far), far, true)
}

// sorted also leaves out what stands there more than once.
func sorted(l list) list {
	slices.SortFunc(l, func(a, b *big.Int) int { return a.Cmp(b) })
	return slices.CompactFunc(l, func(a, b *big.Int) bool { return a.Cmp(b) == 0 })
}

// simple is p without its multiple roots, times some number.
func simple(p list) list {
	a, b := rational(p), rational(derived(p))
	common := a
	for len(b) > 0 {
		_, rest := quotient(common, b)
		common, b = b, rest
	}
	out, _ := quotient(a, common)
	return out.cleared()
}

func derived(p list) list {
	var out list
	for i, c := range p {
		if i > 0 {
			out = append(out, new(big.Int).Mul(c, whole(int64(i))))
		}
	}
	return out
}

// fractions is a polynomial with rational coefficients.
type fractions []*big.Rat

func rational(p list) fractions {
	var out fractions
	for _, c := range p {
		out = append(out, new(big.Rat).SetInt(c))
	}
	return out
}

func quotient(p, q fractions) (fractions, fractions) {
	rest := slices.Clone(p)
	out := make(fractions, max(0, len(p)-len(q)+1))
	for i := range out {
		n := len(out) - 1 - i
		top := n + len(q) - 1
		out[n] = new(big.Rat).Quo(rest[top], q[len(q)-1])
		for k, c := range q {
			rest[n+k] = new(big.Rat).Sub(rest[n+k], new(big.Rat).Mul(out[n], c))
		}
	}
	for len(rest) > 0 && rest[len(rest)-1].Sign() == 0 {
		rest = rest[:len(rest)-1]
	}
	return out, rest
}

func (p fractions) cleared() list {
	common := whole(1)
	for _, c := range p {
		common.Mul(common, c.Denom())
	}
	var out list
	for _, c := range p {
		out = append(out, new(big.Int).Mul(c.Num(), new(big.Int).Quo(common, c.Denom())))
	}
	return out
}

// inside is how many roots a polynomial without multiple roots has between 0 and 1,
// these left out.
func inside(p list) int {
	if n := variations(p); n < 2 {
		return n
	}
	// p(x / 2) times a power of 2: the halves of the range.
	left := make(list, len(p))
	for i, c := range p {
		left[i] = new(big.Int).Lsh(c, uint(len(p)-1-i))
	}
	right := put(left, whole(1), whole(1))
	if right[0].Sign() == 0 {
		return inside(left) + inside(right) + 1
	}
	return inside(left) + inside(right)
}

// variations is a number of roots between 0 and 1 by Descartes' rule of signs, which may
// be too great where it is more than 1.
func variations(p list) int {
	turned := slices.Clone(p)
	slices.Reverse(turned)
	count, last := 0, 0
	for _, c := range put(cut(turned), whole(1), whole(1)) {
		if c.Sign()*last < 0 {
			count++
		}
		if c.Sign() != 0 {
			last = c.Sign()
		}
	}
	return count
}

// table is, for each integer n from lo on and below hi, whether it is a root of p, and
// how many roots there are between n and n + 1.
type table struct {
	lo      int64
	exact   []bool
	between []int
}

func tabled(p list, lo, hi int64) table {
	out := table{lo: lo}
	q := simple(p)
	for n := lo; n < hi; n++ {
		out.exact = append(out.exact, valueAt(q, whole(n)).Sign() == 0)
		out.between = append(out.between, inside(put(q, whole(n), whole(1))))
	}
	return out
}

func (k table) count(a, b int64) int {
	out := 0
	for n := a; n < b; n++ {
		out += k.between[n-k.lo]
		if k.exact[n+1-k.lo] {
			out++
		}
	}
	return out
}

func (k table) floors(lo, hi int64, exact bool) list {
	var out list
	for n := lo; n <= hi; n++ {
		if k.exact[n-k.lo] || !exact && k.between[n-k.lo] > 0 {
			out = append(out, whole(n))
		}
	}
	return out
}
