package elem

import (
	"hairline/api"
	"hairline/dyad"
	"hairline/rows"
)

type sin struct{ anywhere }

func (sin) enclose(x api.Dyad, w int) (enclosure, int) {
	if dyad.Sign(x) < 0 {
		return ahead(dyad.Neg(x), 0, w).scaled(-1), 0
	}
	return ahead(x, 0, w), 0
}

type cos struct{ anywhere }

func (cos) enclose(x api.Dyad, w int) (enclosure, int) {
	if dyad.Sign(x) < 0 {
		x = dyad.Neg(x)
	}
	return ahead(x, 1, w), 0
}

// ahead encloses the sine of a number so many quarters of a turn ahead of x,
// which is not negative.
func ahead(x api.Dyad, quarters, w int) enclosure {
	arg, quarter := ballOf(x, w), halfPi(w)
	k := down(arg.Lo, quarter.Hi)
	rest := arg.minus(quarter.scaled(k))
	j := (k + quarters) % 4
	sum := rows.Sin
	if j%2 == 1 {
		sum = rows.Cos
	}
	low, high, _ := sum(rest.Lo, rest.Q, w/8+6)
	// From the Lo of rest to any other number of it, neither sine nor cosine
	// changes by more than the numbers do.
	value := enclosure{api.Ball{Lo: low, Hi: high, Q: rest.Q}}.plus(rest.width())
	if j >= 2 {
		return value.scaled(-1)
	}
	return value
}
