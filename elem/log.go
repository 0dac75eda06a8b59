package elem

import (
	"hairline/api"
	"hairline/dyad"
	"hairline/rows"
)

type log struct{ positive }

func (log) enclose(x api.Dyad, w int) (enclosure, int) {
	e, _ := dyad.Log(x)
	return lnOfRest(x, e, w).plus(ln2(w).scaled(e)), 0
}

type log2 struct{ positive }

func (log2) enclose(x api.Dyad, w int) (enclosure, int) {
	e, _ := dyad.Log(x)
	return lnOfRest(x, e, w).over(ln2(w)).plus(one(w).scaled(e)), 0
}

// lnOfRest encloses the natural logarithm of m = x times 2^-e, a number from 1 to
// 2, as 2 artanh((m - 1) / (m + 1)).
func lnOfRest(x api.Dyad, e, w int) enclosure {
	m, unit := ballOf(dyad.Shift(x, -e), w), one(w)
	u := m.minus(unit).over(m.plus(unit))
	return u.through(rows.Atanh, w/3+2).scaled(2)
}
