package matrix

import (
	"go/parser"
	"go/token"
	"path/filepath"
	"slices"
	"strings"
	"testing"

	"hairline/api"
)

// results are all matrices that the package's functions make of a and b, and of rows
// of theirs. An integer stands as a matrix of one element, a list as one row.
func results(a, b [][]api.Int) [][][]api.Int {
	d, _ := Det(a)
	p, _ := Mul(a, b)
	back, _ := Mul(b, a)
	u, _ := Turn(a)
	adj, _ := Adjugate(a)
	var row, other []api.Int
	if len(a) > 0 && len(b) > 0 {
		row, other = a[0], b[len(b)-1]
	}
	x, e, _ := Solve(a, other)
	y, f, _ := Solve(a, row)
	s, _ := Sylvester(row, other)
	return [][][]api.Int{{{d}}, p, back, u, adj, {x}, {{e}}, {y}, {{f}}, s, {{Resultant(row, other)}}}
}

func cloneInteger(a api.Int) api.Int {
	return api.Int{Neg: a.Neg, Mag: slices.Clone(a.Mag)}
}

func clone(a [][]api.Int) [][]api.Int {
	out := make([][]api.Int, len(a))
	for i, row := range a {
		for _, x := range row {
			out[i] = append(out[i], cloneInteger(x))
		}
	}
	return out
}

func cloneAll(l [][][]api.Int) [][][]api.Int {
	var out [][][]api.Int
	for _, a := range l {
		out = append(out, clone(a))
	}
	return out
}

func alike(a, b [][]api.Int) bool {
	return slices.EqualFunc(a, b, func(x, y []api.Int) bool {
		return slices.EqualFunc(x, y, func(m, n api.Int) bool {
			return m.Neg == n.Neg && slices.Equal(m.Mag, n.Mag)
		})
	})
}

func allAlike(x, y [][][]api.Int) bool {
	return slices.EqualFunc(x, y, alike)
}

// scribble overwrites limbs, up to their capacity, as their owner may.
func scribble(a api.Int) {
	limbs := a.Mag[:cap(a.Mag)]
	for i := range limbs {
		limbs[i] = 0x5555
	}
}

// scribbleRow overwrites all elements, and then the row, up to its capacity.
func scribbleRow(row []api.Int) {
	row = row[:cap(row)]
	for i := range row {
		scribble(row[i])
		row[i] = api.Int{Neg: true, Mag: []uint64{3, 0}}
	}
}

// scribbleAll overwrites all rows, and then the matrix, up to its capacity.
func scribbleAll(a [][]api.Int) {
	a = a[:cap(a)]
	for i := range a {
		scribbleRow(a[i])
		a[i] = nil
	}
}

func rulePairs(f func(a, b [][]api.Int)) {
	s := source(88172645463325252)
	all := []table{
		rowsOf(1, 5), rowsOf(1, 0), rowsOf(1, -1), rowsOf(2, 1, 2, 3, 4), rowsOf(2, 1, 2, 2, 4), diagonal(2, whole(1)), diagonal(3, whole(1)), zeros(2, 2),
		rowsOf(2, 0, 1, 1, 0), rowsOf(3, 0, 0, 2, 0, 3, 5, 4, 7, 1), rowsOf(3, 1, 2, 3, 4, 5, 6, 7, 8, 9), rowsOf(3, 1, 2, 3), rowsOf(1, 1, 2, 3),
		s.table(2, 2, 150), s.table(3, 3, 150), s.table(4, 4, 70), s.thin(4, 4, 3, 70), s.table(2, 3, 100), s.table(3, 2, 100),
	}
	for _, a := range all {
		for _, b := range all {
			for i, form := range forms(a) {
				f(clone(form), clone(forms(b)[1-i]))
				f(clone(form), clone(forms(b)[i]))
			}
		}
	}
	for _, bad := range noMatrix() {
		f(clone(bad), made(all[3]))
		f(made(all[3]), clone(bad))
	}
}

func TestR1ArgumentsStay(t *testing.T) {
	rulePairs(func(a, b [][]api.Int) {
		oldA, oldB := clone(a), clone(b)
		Right(a)
		Rank(a)
		for _, got := range results(a, b) {
			scribbleAll(got)
		}
		if !alike(a, oldA) || !alike(b, oldB) {
			t.Fatalf("arguments %v, %v have become %v, %v", oldA, oldB, a, b)
		}
	})
}

func TestR1ResultsStay(t *testing.T) {
	rulePairs(func(a, b [][]api.Int) {
		oldA, oldB := clone(a), clone(b)
		got := results(a, b)
		old := cloneAll(got)
		scribbleAll(a)
		scribbleAll(b)
		if !allAlike(got, old) {
			t.Fatalf("results for %v, %v change with the arguments", oldA, oldB)
		}
		for i := range got {
			scribbleAll(got[i])
			if !allAlike(got[i+1:], old[i+1:]) {
				t.Fatalf("results for %v, %v share memory", oldA, oldB)
			}
		}
	})
}

// The rows of one result do not share memory, and neither do the elements of a row.
func TestR1RowsStay(t *testing.T) {
	rulePairs(func(a, b [][]api.Int) {
		for _, got := range results(a, b) {
			old := clone(got)
			for i, row := range got {
				for k := range row {
					scribble(row[k])
					if !alike([][]api.Int{row[k+1:]}, [][]api.Int{old[i][k+1:]}) {
						t.Fatalf("elements of %v, made of %v, %v, share memory", old, a, b)
					}
				}
				scribbleRow(row)
				if !alike(got[i+1:], old[i+1:]) {
					t.Fatalf("rows of %v, made of %v, %v, share memory", old, a, b)
				}
			}
		}
	})
}

// One matrix as both arguments, and one row in several places.
func TestR2OneMatrixTwice(t *testing.T) {
	for _, a := range mixedSquares() {
		form := forms(a)[1]
		got, _ := Mul(form, form)
		wantTable(t, "a a", got, product(a, a))
		row := form[0]
		for i := range form {
			form[i] = row
		}
		d, code := Det(form)
		wantCode(t, "Det of equal rows", code, api.OK)
		if len(a) > 1 {
			wantInteger(t, "Det of equal rows", d, whole(0))
			wantNoSolution(t, form, row, api.ErrNone)
		}
		n, _ := Rank(form)
		if want := rank(table{a[0]}); n != want {
			t.Fatalf("Rank of equal rows: %d, want %d", n, want)
		}
		if degree(a[0]) > 0 {
			wantInteger(t, "Resultant of p and p", Resultant(row, row), whole(0))
		}
	}
	same := integer(shifted(-3, 70))
	e, _ := Det([][]api.Int{{same, {}}, {{}, same}})
	wantInteger(t, "limbs in two places", e, shifted(9, 140))
}

func TestR4EqualCalls(t *testing.T) {
	rulePairs(func(a, b [][]api.Int) {
		roomy := make([][]api.Int, 0, 50)
		for _, row := range a {
			wide := append(make([]api.Int, 0, 50), row...)
			for i := range wide {
				wide[i].Mag = append(make([]uint64, 0, 50), row[i].Mag...)
			}
			roomy = append(roomy, wide)
		}
		n, code := Rank(a)
		m, other := Rank(roomy)
		if !allAlike(results(a, b), results(roomy, b)) || n != m || code != other {
			t.Fatalf("equal calls with %v, %v differ", a, b)
		}
	})
}

func TestR6MatrixUsesZedAndPolyzAlone(t *testing.T) {
	files, err := filepath.Glob("*.go")
	if err != nil || len(files) == 0 {
		t.Fatal("no files", err)
	}
	allowed := []string{`"hairline/api"`, `"hairline/zed"`, `"hairline/polyz"`, `"slices"`}
	for _, name := range files {
		if strings.HasSuffix(name, "_test.go") {
			continue
		}
		file, err := parser.ParseFile(token.NewFileSet(), name, nil, parser.ImportsOnly)
		if err != nil {
			t.Fatal(err)
		}
		for _, used := range file.Imports {
			if !slices.Contains(allowed, used.Path.Value) {
				t.Errorf("%s imports %s", name, used.Path.Value)
			}
		}
	}
}
