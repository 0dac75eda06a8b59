package grid

import (
	"hairline/api"
	"hairline/polyz"
)

// Value returns g(x, y).
func Value(g api.Grid, x, y api.Int) api.Int {
	return polyz.Value(PutY(g, y), x)
}

// PutX returns the polynomial in y that g is at this x.
func PutX(g api.Grid, x api.Int) api.Poly {
	return PutY(Turn(g), x)
}

// PutY returns the polynomial in x that g is at this y.
func PutY(g api.Grid, y api.Int) api.Poly {
	out := make(api.Poly, len(g))
	for i := range len(g) {
		out[i] = polyz.Value(g[i], y)
	}
	return polyz.Norm(out)
}
