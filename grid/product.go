package grid

import (
	"cmp"
	"maps"
	"slices"

	"hairline/api"
	"hairline/zed"
)

// place is where a coefficient stands: with x^x y^y.
type place struct{ x, y int }

type term struct {
	place
	number api.Int
}

// Mul returns g h.
//
// The products of terms are collected by their places: so grids of few terms with
// great powers need no more room than their product does.
func Mul(g, h api.Grid) api.Grid {
	sums := make(map[place]api.Int)
	others := terms(h)
	for _, a := range terms(g) {
		for _, b := range others {
			at := place{a.x + b.x, a.y + b.y}
			sums[at] = zed.Add(sums[at], zed.Mul(a.number, b.number))
		}
	}
	return inOrder(sums)
}

// Turn returns g with x and y exchanged.
func Turn(g api.Grid) api.Grid {
	var out api.Grid
	for _, t := range terms(g) {
		out = put(out, place{t.y, t.x}, zed.Norm(t.number))
	}
	return out
}

// terms returns the coefficients of g that are not 0, by increasing powers of x, and
// for equal ones of y. They share the limbs of g.
func terms(g api.Grid) []term {
	var out []term
	for i := range len(g) {
		for j := range len(g[i]) {
			if zed.Sign(g[i][j]) != 0 {
				out = append(out, term{place{i, j}, g[i][j]})
			}
		}
	}
	return out
}

// inOrder returns the grid of sums, some of which may be 0.
func inOrder(sums map[place]api.Int) api.Grid {
	places := slices.SortedFunc(maps.Keys(sums), func(a, b place) int {
		return cmp.Or(cmp.Compare(a.x, b.x), cmp.Compare(a.y, b.y))
	})
	var out api.Grid
	for _, at := range places {
		if c := sums[at]; zed.Sign(c) != 0 {
			out = put(out, at, c)
		}
	}
	return out
}

// put stores a coefficient that is not 0 behind all others of its row. So rows only
// get as long as they have to be, and g stays in normal form.
func put(g api.Grid, at place, c api.Int) api.Grid {
	for len(g) <= at.x {
		g = append(g, nil)
	}
	for len(g[at.x]) < at.y {
		g[at.x] = append(g[at.x], api.Int{})
	}
	g[at.x] = append(g[at.x], c)
	return g
}
