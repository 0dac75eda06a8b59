package elem

import (
	"hairline/api"
	"hairline/ball"
	"hairline/consts"
	"hairline/dyad"
)

// enclosure is a ball with Q = w, which contains a number on the way to a value.
type enclosure struct {
	api.Ball
}

// series is a function of package rows: t, q and the number of terms.
type series func(t api.Int, q, n int) (api.Int, api.Int, api.Errno)

// sure takes a result of package ball or consts whose arguments are right.
func sure(b api.Ball, _ api.Errno) enclosure {
	return enclosure{b}
}

// ballOf returns the ball of a dyad.
func ballOf(d api.Dyad, w int) enclosure {
	return sure(ball.Point(d, w))
}

func one(w int) enclosure {
	return ballOf(api.Dyad{M: whole(1)}, w)
}

func ln2(w int) enclosure {
	return sure(consts.Ln2(w))
}

func halfPi(w int) enclosure {
	pi, _ := consts.Pi(w)
	return sure(ball.Shift(pi, -1))
}

func (a enclosure) plus(b enclosure) enclosure {
	return sure(ball.Add(a.Ball, b.Ball))
}

func (a enclosure) minus(b enclosure) enclosure {
	return sure(ball.Sub(a.Ball, b.Ball))
}

func (a enclosure) times(b enclosure) enclosure {
	return sure(ball.Mul(a.Ball, b.Ball))
}

// over divides by a ball that does not contain 0.
func (a enclosure) over(b enclosure) enclosure {
	return sure(ball.Div(a.Ball, b.Ball))
}

func (a enclosure) scaled(k int) enclosure {
	return sure(ball.Times(a.Ball, whole(k)))
}

// through returns the ball of the values of a function that increases, by so
// many terms of its series.
func (a enclosure) through(sum series, terms int) enclosure {
	low, _, _ := sum(a.Lo, a.Q, terms)
	_, high, _ := sum(a.Hi, a.Q, terms)
	return enclosure{api.Ball{Lo: low, Hi: high, Q: a.Q}}
}

// width returns the ball from -g to g, where g is the Hi of a minus its Lo.
func (a enclosure) width() enclosure {
	return a.minus(a)
}

// down returns DOWN of x / y for a positive y: a ball at 0 has integers for ends.
func down(x, y api.Int) int {
	quotient := sure(ball.Div(api.Ball{Lo: x, Hi: x}, api.Ball{Lo: y, Hi: y}))
	return number(quotient.Lo)
}

// floor returns the greatest integer that is not greater than d.
func floor(d api.Dyad) int {
	return number(dyad.Floor(d, 0))
}

func whole(n int) api.Int {
	if n < 0 {
		return api.Int{Neg: true, Mag: []uint64{uint64(-n)}}
	}
	return api.Int{Mag: []uint64{uint64(n)}}
}

// number is for an integer in normal form that fits.
func number(a api.Int) int {
	switch {
	case len(a.Mag) == 0:
		return 0
	case a.Neg:
		return -int(a.Mag[0])
	}
	return int(a.Mag[0])
}
