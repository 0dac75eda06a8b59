package lattice

import (
	"go/parser"
	"go/token"
	"path/filepath"
	"slices"
	"strings"
	"testing"

	"hairline/api"
)

// results are all rows that the package's functions make of rows and a list. An integer
// stands as a matrix of one element, a list as one row.
func results(a [][]api.Int, v []api.Int) [][][]api.Int {
	var first []api.Int
	if len(a) > 0 {
		first = a[0]
	}
	d, _ := Dot(first, v)
	norm, _ := Dot(first, first)
	g, _ := Gram(a)
	volume, _ := Volume(a)
	c, _ := Inside(a, v)
	one, _ := Inside(a, first)
	rows, u, _ := Reduce(a)
	return [][][]api.Int{{{d}}, {{norm}}, g, {{volume}}, {c}, {one}, rows, u}
}

// numbers are Reduced and all error numbers.
func numbers(a [][]api.Int, v []api.Int) []int {
	_, first := Dot(v, v)
	_, second := Gram(a)
	_, third := Volume(a)
	_, fourth := Inside(a, v)
	is, fifth := Reduced(a)
	_, _, sixth := Reduce(a)
	out := []int{int(first), int(second), int(third), int(fourth), int(fifth), int(sixth), 0}
	if is {
		out[6] = 1
	}
	return out
}

func cloneList(l []api.Int) []api.Int {
	out := make([]api.Int, len(l))
	for i, x := range l {
		out[i] = api.Int{Neg: x.Neg, Mag: slices.Clone(x.Mag)}
	}
	return out
}

func clone(a [][]api.Int) [][]api.Int {
	out := make([][]api.Int, len(a))
	for i, row := range a {
		out[i] = cloneList(row)
	}
	return out
}

func cloneAll(l [][][]api.Int) [][][]api.Int {
	var out [][][]api.Int
	for _, a := range l {
		out = append(out, clone(a))
	}
	return out
}

func alikeList(a, b []api.Int) bool {
	return slices.EqualFunc(a, b, func(m, n api.Int) bool {
		return m.Neg == n.Neg && slices.Equal(m.Mag, n.Mag)
	})
}

func alike(a, b [][]api.Int) bool {
	return slices.EqualFunc(a, b, alikeList)
}

func allAlike(x, y [][][]api.Int) bool {
	return slices.EqualFunc(x, y, alike)
}

// scribble overwrites limbs, up to their capacity, as their owner may.
func scribble(a api.Int) {
	limbs := a.Mag[:cap(a.Mag)]
	for i := range limbs {
		limbs[i] = 0x5555
	}
}

// scribbleList overwrites all elements, and then the list, up to its capacity.
func scribbleList(l []api.Int) {
	l = l[:cap(l)]
	for i := range l {
		scribble(l[i])
		l[i] = api.Int{Neg: true, Mag: []uint64{3, 0}}
	}
}

// scribbleAll overwrites all rows, and then the matrix, up to its capacity.
func scribbleAll(a [][]api.Int) {
	a = a[:cap(a)]
	for i := range a {
		scribbleList(a[i])
		a[i] = nil
	}
}

// ruleCases calls f with rows and lists of their lattices, of their span, and of other
// lengths. Each call has copies of its own.
func ruleCases(f func(a [][]api.Int, v []api.Int)) {
	s := source(88172645463325252)
	all := []table{
		rowsOf(1, 5), rowsOf(1, -1), rowsOf(1, 0), rowsOf(3, 1, 2, 3), rowsOf(2, 1, 1, 0, 1), rowsOf(2, 2, 0, 1, 5), rowsOf(2, 1, 0, 0, 1), rowsOf(2, -1, 0, 0, 1),
		diagonal(3, whole(-4)), grown(rowsOf(3, 9, 0, 0, 0, 5, 0, 0, 0, 2), 70), rowsOf(3, 1, 2, 3, 4, 5, 6, 7, 8, 9), rowsOf(2, 1, 2, 3, 4, 5, 6), zeros(2, 2),
		s.table(2, 2, 150), s.table(3, 3, 150), s.table(4, 4, 70), s.table(2, 5, 100), s.table(3, 2, 100), s.thin(4, 4, 3, 70),
	}
	for _, a := range all {
		sum := product(table{s.list(len(a), 70)}, a)[0]
		for _, v := range []table{{sum}, a[len(a)-1:], zeros(1, len(a[0])), {plusOne(sum)}, {append(wholes(3), sum...)}, {wholes()}} {
			for i, form := range forms(a) {
				f(clone(form), cloneList(listForms(v[0])[i]))
				f(clone(form), cloneList(listForms(v[0])[1-i]))
			}
		}
	}
	for _, bad := range noMatrix() {
		f(clone(bad), of(2, 1, 2)[0])
	}
}

func TestR1ArgumentsStay(t *testing.T) {
	ruleCases(func(a [][]api.Int, v []api.Int) {
		oldA, oldV := clone(a), cloneList(v)
		numbers(a, v)
		for _, got := range results(a, v) {
			scribbleAll(got)
		}
		if !alike(a, oldA) || !alikeList(v, oldV) {
			t.Fatalf("arguments %v, %v have become %v, %v", oldA, oldV, a, v)
		}
	})
}

func TestR1ResultsStay(t *testing.T) {
	ruleCases(func(a [][]api.Int, v []api.Int) {
		oldA, oldV := clone(a), cloneList(v)
		got := results(a, v)
		old := cloneAll(got)
		scribbleAll(a)
		scribbleList(v)
		if !allAlike(got, old) {
			t.Fatalf("results for %v, %v change with the arguments", oldA, oldV)
		}
		for i := range got {
			scribbleAll(got[i])
			if !allAlike(got[i+1:], old[i+1:]) {
				t.Fatalf("results for %v, %v share memory", oldA, oldV)
			}
		}
	})
}

// The rows of one result do not share memory, and neither do the elements of a row.
func TestR1RowsStay(t *testing.T) {
	ruleCases(func(a [][]api.Int, v []api.Int) {
		for _, got := range results(a, v) {
			old := clone(got)
			for i, row := range got {
				for k := range row {
					scribble(row[k])
					if !alikeList(row[k+1:], old[i][k+1:]) {
						t.Fatalf("elements of %v, made of %v, %v, share memory", old, a, v)
					}
				}
				scribbleList(row)
				if !alike(got[i+1:], old[i+1:]) {
					t.Fatalf("rows of %v, made of %v, %v, share memory", old, a, v)
				}
			}
		}
	})
}

// One list in several places, and limbs in several places.
func TestR2OneListTwice(t *testing.T) {
	for _, a := range mixedTables() {
		rows := forms(a)[1]
		if independent(a) {
			for i, row := range rows {
				c, code := Inside(rows, row)
				wantList(t, "Inside of a row", c, code, diagonal(len(a), whole(1))[i])
			}
		}
		row := rows[0]
		for i := range rows {
			rows[i] = row
		}
		g, code := Gram(rows)
		wantCode(t, "Gram of equal rows", code, api.OK)
		wantTable(t, "Gram of equal rows", g, gram(read(rows)))
		if len(rows) == 1 {
			continue
		}
		volume, code := Volume(rows)
		wantInteger(t, "Volume of equal rows", volume, code, whole(0))
		_, _, code = Reduce(rows)
		wantCode(t, "Reduce of equal rows", code, api.ErrNone)
		c, code := Inside(rows, row)
		wantNoList(t, "Inside of equal rows", c, code, api.ErrNone)
	}
	same := integer(shifted(-3, 70))
	got, u, code := Reduce([][]api.Int{{same, same}, {same, {}}})
	wantCode(t, "Reduce with limbs in several places", code, api.OK)
	rows, factors := reduce(grown(rowsOf(2, -3, -3, -3, 0), 70))
	wantTable(t, "Reduce with limbs in several places", got, rows)
	wantTable(t, "U with limbs in several places", u, factors)
}

// Long lists of rows that depend on the first ones take no time, and no matrix of all
// their scalar products.
func TestR2ManyDependentRows(t *testing.T) {
	var rows [][]api.Int
	for i := range int64(200000) {
		rows = append(rows, of(2, i+1, i*i)[0])
	}
	volume, code := Volume(rows)
	wantInteger(t, "Volume of many rows", volume, code, whole(0))
	is, code := Reduced(rows)
	wantCode(t, "Reduced of many rows", code, api.OK)
	if is {
		t.Fatal("Reduced of many rows: true")
	}
	c, code := Inside(rows, rows[1])
	wantNoList(t, "Inside of many rows", c, code, api.ErrNone)
	got, u, code := Reduce(rows)
	wantNoTable(t, "Reduce of many rows", got, code, api.ErrNone)
	wantNoTable(t, "U of many rows", u, code, api.ErrNone)
}

func TestR4EqualCalls(t *testing.T) {
	ruleCases(func(a [][]api.Int, v []api.Int) {
		roomy := make([][]api.Int, 0, 50)
		for _, row := range a {
			wide := append(make([]api.Int, 0, 50), row...)
			for i := range wide {
				wide[i].Mag = append(make([]uint64, 0, 50), row[i].Mag...)
			}
			roomy = append(roomy, wide)
		}
		if !allAlike(results(a, v), results(roomy, v)) || !slices.Equal(numbers(a, v), numbers(roomy, v)) {
			t.Fatalf("equal calls with %v, %v differ", a, v)
		}
	})
}

func TestR6LatticeUsesZedAndMatrixAlone(t *testing.T) {
	files, err := filepath.Glob("*.go")
	if err != nil || len(files) == 0 {
		t.Fatal("no files", err)
	}
	allowed := []string{`"hairline/api"`, `"hairline/zed"`, `"hairline/matrix"`, `"slices"`}
	for _, name := range files {
		if strings.HasSuffix(name, "_test.go") {
			continue
		}
		file, err := parser.ParseFile(token.NewFileSet(), name, nil, parser.ImportsOnly)
		if err != nil {
			t.Fatal(err)
		}
		for _, used := range file.Imports {
			if !slices.Contains(allowed, used.Path.Value) {
				t.Errorf("%s imports %s", name, used.Path.Value)
			}
		}
	}
}
