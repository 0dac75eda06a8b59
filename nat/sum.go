package nat

// Add returns the sum.
func Add(a, b []uint64) []uint64 {
	a, b = trim(a), trim(b)
	if len(a) < len(b) {
		a, b = b, a
	}
	sum := make([]uint64, len(a)+1)
	copy(sum, a)
	addTo(sum, b)
	return trim(sum)
}

// Sub returns the difference and true, or nothing and false if a is less than b.
func Sub(a, b []uint64) ([]uint64, bool) {
	if Cmp(a, b) < 0 {
		return nil, false
	}
	rest := Norm(a)
	subFrom(rest, trim(b))
	return trim(rest), true
}

// Mul returns the product.
func Mul(a, b []uint64) []uint64 {
	a, b = trim(a), trim(b)
	if len(a) < len(b) {
		a, b = b, a // the inner loop is the cheaper one
	}
	if len(b) == 0 {
		return nil
	}
	product := make([]uint64, len(a)+len(b))
	for i := range len(b) {
		end := i + len(a) + 1
		addProduct(product[i:end:end], a, b[i])
	}
	return trim(product)
}

// addTo adds b to sum, which is at least as long, and returns what is carried
// out of its top.
func addTo(sum, b []uint64) uint64 {
	carry := uint64(0)
	for i := range len(b) {
		sum[i], carry = addLimb(sum[i], b[i], carry)
	}
	for i := len(b); carry != 0 && i < len(sum); i++ {
		sum[i], carry = addLimb(sum[i], 0, carry)
	}
	return carry
}

// subFrom subtracts b from rest, which is at least as long and not less.
func subFrom(rest, b []uint64) {
	borrow := uint64(0)
	for i := range len(b) {
		rest[i], borrow = subLimb(rest[i], b[i], borrow)
	}
	for i := len(b); borrow != 0 && i < len(rest); i++ {
		rest[i], borrow = subLimb(rest[i], 0, borrow)
	}
}

// addProduct adds a times d to a window of one limb more than a. The window's
// top limb must be 0, so that nothing can be carried out of it.
func addProduct(window, a []uint64, d uint64) {
	carry := uint64(0)
	for i := range len(a) {
		high, low := mulLimb(a[i], d)
		low, over := addLimb(low, carry, 0)
		sum, more := addLimb(window[i], low, 0)
		window[i] = sum
		carry = high + over + more
	}
	window[len(a)] = carry
}

// subProduct subtracts b times d from a window of one limb more than b, and
// returns 1 if the difference is negative and therefore wrapped round, else 0.
func subProduct(window, b []uint64, d uint64) uint64 {
	carry := uint64(0)
	for i := range len(b) {
		high, low := mulLimb(b[i], d)
		low, over := addLimb(low, carry, 0)
		rest, more := subLimb(window[i], low, 0)
		window[i] = rest
		carry = high + over + more
	}
	top, borrow := subLimb(window[len(b)], carry, 0)
	window[len(b)] = top
	return borrow
}

// addLimb returns x + y + carry as a limb and the next carry; carry is 0 or 1.
func addLimb(x, y, carry uint64) (uint64, uint64) {
	sum := x + y + carry
	return sum, (x&y | (x|y)&^sum) >> (limbBits - 1)
}

// subLimb returns x - y - borrow as a limb and the next borrow; borrow is 0 or 1.
func subLimb(x, y, borrow uint64) (uint64, uint64) {
	rest := x - y - borrow
	return rest, (^x&y | (^x|y)&rest) >> (limbBits - 1)
}

// mulLimb returns the high and the low limb of x y. It works on halves of
// limbs, whose products fit in a limb.
func mulLimb(x, y uint64) (uint64, uint64) {
	x0, x1 := x&lowHalf, x>>halfBits
	y0, y1 := y&lowHalf, y>>halfBits
	middle := x1*y0 + x0*y0>>halfBits
	other := x0*y1 + middle&lowHalf
	return x1*y1 + middle>>halfBits + other>>halfBits, x * y
}
