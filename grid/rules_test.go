package grid

import (
	"go/parser"
	"go/token"
	"math/big"
	"path/filepath"
	"slices"
	"strings"
	"testing"

	"hairline/api"
)

// results are all grids that the package's functions make of g and h. A polynomial
// stands as one row, an integer as a row of one number.
func results(g, h api.Grid, x, y api.Int) []api.Grid {
	return []api.Grid{
		Norm(g), Add(g, h), Sub(g, h), Mul(g, h), Turn(g), Norm(h), Sub(h, g), Add(g, g),
		{{Value(g, x, y)}}, {PutX(g, x)}, {PutY(g, y)}, {Eliminate(g, h)}, {Eliminate(h, g)},
	}
}

func cloneInteger(a api.Int) api.Int {
	return api.Int{Neg: a.Neg, Mag: slices.Clone(a.Mag)}
}

func clone(g api.Grid) api.Grid {
	out := make(api.Grid, len(g))
	for i, row := range g {
		for _, x := range row {
			out[i] = append(out[i], cloneInteger(x))
		}
	}
	return out
}

func cloneAll(l []api.Grid) []api.Grid {
	var out []api.Grid
	for _, g := range l {
		out = append(out, clone(g))
	}
	return out
}

func alikeInteger(a, b api.Int) bool {
	return a.Neg == b.Neg && slices.Equal(a.Mag, b.Mag)
}

func alike(g, h api.Grid) bool {
	return slices.EqualFunc(g, h, func(a, b []api.Int) bool { return slices.EqualFunc(a, b, alikeInteger) })
}

func allAlike(k, l []api.Grid) bool {
	return slices.EqualFunc(k, l, alike)
}

// scribble overwrites limbs, up to their capacity, as their owner may.
func scribble(a api.Int) {
	limbs := a.Mag[:cap(a.Mag)]
	for i := range limbs {
		limbs[i] = 0x5555
	}
}

// scribbleRow overwrites all numbers, and then the row, up to its capacity.
func scribbleRow(row []api.Int) {
	row = row[:cap(row)]
	for i := range row {
		scribble(row[i])
		row[i] = api.Int{Neg: true, Mag: []uint64{3, 0}}
	}
}

// scribbleAll overwrites all rows, and then the grid, up to its capacity.
func scribbleAll(g api.Grid) {
	g = g[:cap(g)]
	for i := range g {
		scribbleRow(g[i])
		g[i] = nil
	}
}

// ruleCases calls f with copies of its own each time.
func ruleCases(f func(g, h api.Grid, x, y api.Int)) {
	s := source(88172645463325252)
	all := []sheet{
		sheetOf([]int64{5}), sheetOf([]int64{0, 1}, []int64{1}), sheetOf([]int64{0, -1}, []int64{1}), monomial(-1, 2, 0), monomial(1, 0, 2),
		sheetOf([]int64{0, 0, 1}, []int64{-1}), sheetOf([]int64{1, 2}, nil, []int64{0, 0, 0, 4}), sheetOf(nil, []int64{1}), sheetOf([]int64{1}, []int64{0, 1}),
		s.sheet(2, 2, 150), s.sheet(1, 3, 70), s.sheet(3, 1, 100),
	}
	numbers := integerForms(whole(0))
	for _, x := range points() {
		numbers = append(numbers, integerForms(x)...)
	}
	n := 0
	next := func() api.Int {
		n++
		return cloneInteger(numbers[n*7%len(numbers)])
	}
	for _, g := range all {
		for _, h := range all {
			for i, form := range forms(g) {
				f(clone(form), clone(forms(h)[3-i]), next(), next())
				f(clone(form), clone(forms(h)[i]), next(), next())
			}
		}
	}
	for i, nought := range noughts() {
		f(clone(nought), made(all[i]), next(), next())
		f(made(all[i]), clone(nought), next(), next())
	}
}

func TestR1ArgumentsStay(t *testing.T) {
	ruleCases(func(g, h api.Grid, x, y api.Int) {
		oldG, oldH, oldX, oldY := clone(g), clone(h), cloneInteger(x), cloneInteger(y)
		Same(g, h)
		Degrees(g)
		for _, got := range results(g, h, x, y) {
			scribbleAll(got)
		}
		if !alike(g, oldG) || !alike(h, oldH) || !alikeInteger(x, oldX) || !alikeInteger(y, oldY) {
			t.Fatalf("arguments %v, %v, %v, %v have become %v, %v, %v, %v", oldG, oldH, oldX, oldY, g, h, x, y)
		}
	})
}

func TestR1ResultsStay(t *testing.T) {
	ruleCases(func(g, h api.Grid, x, y api.Int) {
		oldG, oldH := clone(g), clone(h)
		got := results(g, h, x, y)
		old := cloneAll(got)
		scribbleAll(g)
		scribbleAll(h)
		scribble(x)
		scribble(y)
		if !allAlike(got, old) {
			t.Fatalf("results for %v, %v change with the arguments", oldG, oldH)
		}
		for i := range got {
			scribbleAll(got[i])
			if !allAlike(got[i+1:], old[i+1:]) {
				t.Fatalf("results for %v, %v share memory", oldG, oldH)
			}
		}
	})
}

// The rows of one result do not share memory, and neither do the numbers of a row.
func TestR1RowsStay(t *testing.T) {
	ruleCases(func(g, h api.Grid, x, y api.Int) {
		for _, got := range results(g, h, x, y) {
			old := clone(got)
			for i, row := range got {
				for k := range row {
					scribble(row[k])
					if !alike(api.Grid{row[k+1:]}, api.Grid{old[i][k+1:]}) {
						t.Fatalf("numbers of %v, made of %v, %v, share memory", old, g, h)
					}
				}
				scribbleRow(row)
				if !alike(got[i+1:], old[i+1:]) {
					t.Fatalf("rows of %v, made of %v, %v, share memory", old, g, h)
				}
			}
		}
	})
}

// One grid as both arguments, and one row in several places.
func TestR2OneGridTwice(t *testing.T) {
	for _, g := range mixedSheets() {
		form := forms(g)[3]
		wantGrid(t, "g g", Mul(form, form), product(g, g))
		wantGrid(t, "g - g", Sub(form, form), nil)
		if width(g) > 1 {
			wantList(t, "Eliminate of g and g", Eliminate(form, form), nil)
		}
		for i := range form {
			form[i] = form[0]
		}
		var want sheet
		for range form {
			want = append(want, g[:min(1, len(g))]...)
		}
		if len(g) == 0 || len(g[0]) == 0 {
			want = nil
		}
		wantGrid(t, "equal rows", Norm(form), want)
		wantGrid(t, "equal rows turned", Turn(form), turned(want))
	}
	same := integer(shifted(-3, 70))
	g := api.Grid{{same, same}, {same}}
	wantInteger(t, "limbs in several places", Value(g, same, same), valueAt(sheet{{value(same), value(same)}, {value(same)}}, value(same), value(same)))
}

// Many rows, or a long row.
func TestR2LongGrids(t *testing.T) {
	const n = 300_000
	one := integer(whole(1))
	high, wide := make(api.Grid, n), api.Grid{make([]api.Int, n)}
	for i := range n {
		high[i] = []api.Int{one}
		wide[0][i] = one
	}
	wantInteger(t, "Value of many rows", Value(high, integer(whole(-1)), integer(shifted(1, 90))), whole(0))
	wantInteger(t, "Value of a long row", Value(wide, integer(shifted(1, 90)), one), whole(n))
	if !Same(Turn(high), wide) || !Same(Turn(wide), high) || !Same(Add(high, Sub(wide, high)), wide) {
		t.Fatal("Turn, Add or Sub is wrong")
	}
	wantList(t, "Eliminate of many rows", Eliminate(high, of([]int64{2})), list(1))
	wantList(t, "Eliminate of a great power of x", Eliminate(of([]int64{-1, 1}), append(make(api.Grid, 500), wide[0][:2])), turned(monomial(2, 500, 0))[0])
	wantList(t, "Eliminate of a great power of y", Eliminate(made(monomial(1, 0, 300)), of([]int64{-1, 1}, []int64{1})), alternating(300))
}

// alternating are the coefficients of (1 - x)^n.
func alternating(n int64) []*big.Int {
	var out []*big.Int
	for k := range n + 1 {
		c := new(big.Int).Binomial(n, k)
		if k%2 == 1 {
			c.Neg(c)
		}
		out = append(out, c)
	}
	return out
}

func TestR4EqualCalls(t *testing.T) {
	ruleCases(func(g, h api.Grid, x, y api.Int) {
		roomy := make(api.Grid, 0, 50)
		for _, row := range g {
			wide := append(make([]api.Int, 0, 50), row...)
			for i := range wide {
				wide[i].Mag = append(make([]uint64, 0, 50), row[i].Mag...)
			}
			roomy = append(roomy, wide)
		}
		if !allAlike(results(g, h, x, y), results(roomy, h, x, y)) {
			t.Fatalf("equal calls with %v, %v differ", g, h)
		}
	})
}

// Products of many terms: the order in which a map is gone through does not show.
func TestR4EqualProducts(t *testing.T) {
	s := source(2463534242)
	g, h := made(s.sheet(9, 9, 90)), made(s.sheet(9, 9, 90))
	first := Mul(g, h)
	for range 20 {
		if !alike(Mul(g, h), first) {
			t.Fatal("equal products differ")
		}
	}
}

func TestR6GridUsesItsLayersAlone(t *testing.T) {
	files, err := filepath.Glob("*.go")
	if err != nil || len(files) == 0 {
		t.Fatal("no files", err)
	}
	allowed := []string{`"hairline/api"`, `"hairline/zed"`, `"hairline/polyz"`, `"hairline/matrix"`, `"cmp"`, `"maps"`, `"slices"`}
	for _, name := range files {
		if strings.HasSuffix(name, "_test.go") {
			continue
		}
		file, err := parser.ParseFile(token.NewFileSet(), name, nil, parser.ImportsOnly)
		if err != nil {
			t.Fatal(err)
		}
		for _, used := range file.Imports {
			if !slices.Contains(allowed, used.Path.Value) {
				t.Errorf("%s imports %s", name, used.Path.Value)
			}
		}
	}
}
