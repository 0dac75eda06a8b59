package elem

import (
	"hairline/api"
	"hairline/dyad"
	"hairline/rows"
)

type exp struct{ anywhere }

func (exp) enclose(x api.Dyad, w int) (enclosure, int) {
	arg, ln := ballOf(x, w), ln2(w)
	// By the end of ln 2 with which no number of arg - k ln 2 is below 0.
	divisor := ln.Hi
	if arg.Lo.Neg {
		divisor = ln.Lo
	}
	k := down(arg.Lo, divisor)
	return exponential(arg.minus(ln.scaled(k))), k
}

type exp2 struct{ anywhere }

func (exp2) enclose(x api.Dyad, w int) (enclosure, int) {
	k := floor(x)
	rest := dyad.Sub(x, api.Dyad{M: whole(k)})
	return exponential(ballOf(rest, w).times(ln2(w))), k
}

// exponential is for numbers from 0 to 1.
func exponential(a enclosure) enclosure {
	return a.through(rows.Exp, a.Q/4+10)
}
