package lattice

import (
	"math/big"
	"slices"
	"testing"

	"hairline/api"
)

func wantReduced(t *testing.T, a table, want bool) {
	t.Helper()
	for _, rows := range forms(a) {
		got, code := Reduced(rows)
		wantCode(t, "Reduced", code, api.OK)
		if got != want {
			t.Fatalf("Reduced of %d: %v", a, got)
		}
	}
}

func wantReduce(t *testing.T, a, want, wantU table) {
	t.Helper()
	for _, rows := range forms(a) {
		got, u, code := Reduce(rows)
		wantCode(t, "Reduce", code, api.OK)
		wantTable(t, "rows of Reduce", got, want)
		wantTable(t, "U of Reduce", u, wantU)
	}
}

// Each of these is given with numbers of one limb and of several.
func TestN3Reduced(t *testing.T) {
	for _, c := range []struct {
		rows table
		want bool
	}{
		{rowsOf(1, 1), true},
		{rowsOf(1, -5), true},
		{rowsOf(3, 0, 0, 7), true},
		{rowsOf(2, 1, 0, 0, 1), true},
		{rowsOf(2, 1, 1, 0, 1), false},
		{rowsOf(2, -1, 0, 0, 1), true},
		{rowsOf(2, 0, 1, 1, 0), true},
		{rowsOf(2, 1, 0, 3, 1), false},
		// m(2, 1) is 1/2 and -1/2, and just beyond, where N(2) is great enough.
		{rowsOf(2, 200, 0, 100, 200), true},
		{rowsOf(2, 200, 0, 101, 200), false},
		{rowsOf(2, 200, 0, -100, 200), true},
		{rowsOf(2, 200, 0, -101, 200), false},
		{rowsOf(2, 200, 0, 99, 200), true},
		// m(3, 1) and m(3, 2).
		{rowsOf(3, 200, 0, 0, 0, 200, 0, 100, -100, 300), true},
		{rowsOf(3, 200, 0, 0, 0, 200, 0, -100, 100, 300), true},
		{rowsOf(3, 200, 0, 0, 0, 200, 0, 101, 0, 300), false},
		{rowsOf(3, 200, 0, 0, 0, 200, 0, -101, 0, 300), false},
		{rowsOf(3, 200, 0, 0, 0, 200, 0, 0, 101, 300), false},
		{rowsOf(3, 200, 0, 0, 0, 200, 0, 0, -101, 300), false},
		{rowsOf(3, 200, 0, 0, 101, 200, 0, 0, 0, 300), false},
		// N(2) is 3/4 of N(1), and just less; m(2, 1) is 0.
		{rowsOf(4, 20, 0, 0, 0, 0, 10, 10, 10), true},
		{rowsOf(4, 20, 0, 0, 0, 0, 10, 10, 9), false},
		{rowsOf(4, 200, 0, 0, 0, 0, 100, 100, -99), false},
		// N(2) is 1/2 of N(1), where m(2, 1) is 1/2 or -1/2, and just less.
		{rowsOf(3, 20, 0, 0, 10, 10, 10), true},
		{rowsOf(3, 20, 0, 0, -10, 10, 10), true},
		{rowsOf(3, 20, 0, 0, 10, 10, 9), false},
		{rowsOf(3, 20, 0, 0, -10, 10, 9), false},
		// N(2) is 11/16 of N(1), where m(2, 1) is 1/4 or -1/4, and just less.
		{rowsOf(4, 40, 0, 0, 0, 10, 30, 10, 10), true},
		{rowsOf(4, 40, 0, 0, 0, -10, 30, 10, 10), true},
		{rowsOf(4, 40, 0, 0, 0, 10, 30, 10, 9), false},
		{rowsOf(4, 40, 0, 0, 0, 9, 30, 10, 10), false},
		// The same in rows 2 and 3, behind a row 1 that is short.
		{rowsOf(5, 1, 0, 0, 0, 0, 0, 20, 0, 0, 0, 0, 0, 10, 10, 10), true},
		{rowsOf(5, 1, 0, 0, 0, 0, 0, 20, 0, 0, 0, 0, 0, 10, 10, 9), false},
		// m(3, 1)^2 does not count, and N(3) may be less than 3/4 of N(1).
		{rowsOf(3, 4, 0, 0, 0, 4, 0, 2, 0, 3), false},
		{rowsOf(3, 40, 0, 0, 20, 30, 0, 0, 0, 26), true},
		{rowsOf(3, 40, 0, 0, 20, 30, 0, 0, 0, 25), false},
	} {
		wantReduced(t, c.rows, c.want)
		wantReduced(t, grown(c.rows, 150), c.want)
		if reduced(c.rows) != c.want {
			t.Fatalf("the test is wrong about %d", c.rows)
		}
	}
}

// What is just beyond by one part in 2^150.
func TestN3ReducedLimbs(t *testing.T) {
	one, half := shifted(1, 150), shifted(1, 149)
	for _, sign := range []int64{1, -1} {
		x := times(half, whole(sign))
		wantReduced(t, table{{one, whole(0)}, {x, one}}, true)
		wantReduced(t, table{{one, whole(0)}, {plus(x, sign), one}}, false)
		wantReduced(t, table{{one, whole(0)}, {plus(x, -sign), one}}, true)
	}
	zero := whole(0)
	wantReduced(t, table{{one, zero, zero, zero}, {zero, half, half, half}}, true)
	wantReduced(t, table{{one, zero, zero, zero}, {zero, half, half, plus(half, -1)}}, false)
	wantReduced(t, table{{plus(one, 1), zero, zero, zero}, {zero, half, half, half}}, false)
	wantReduced(t, table{{one, zero, zero}, {half, half, half}}, true)
	wantReduced(t, table{{one, zero, zero}, {half, plus(half, -1), half}}, false)
}

func TestN3ReducedAgainstTheChapter(t *testing.T) {
	for _, a := range tables() {
		got, code := Reduced(made(a))
		wantCode(t, "Reduced", code, api.OK)
		if got != reduced(a) {
			t.Fatalf("Reduced of %d: %v", a, got)
		}
	}
}

func TestN3DependentRows(t *testing.T) {
	for _, a := range dependent() {
		wantReduced(t, a, false)
		for _, rows := range forms(a) {
			got, u, code := Reduce(rows)
			wantNoTable(t, "Reduce of dependent rows", got, code, api.ErrNone)
			wantNoTable(t, "U of dependent rows", u, code, api.ErrNone)
		}
	}
}

func TestN3NoMatrix(t *testing.T) {
	for _, bad := range noMatrix() {
		is, code := Reduced(bad)
		wantCode(t, "Reduced of no matrix", code, api.ErrArg)
		if is {
			t.Fatal("Reduced of no matrix: true")
		}
		got, u, code := Reduce(bad)
		wantNoTable(t, "Reduce of no matrix", got, code, api.ErrArg)
		wantNoTable(t, "U of no matrix", u, code, api.ErrArg)
	}
}

func TestN3ReduceExamples(t *testing.T) {
	for _, c := range []struct{ rows, want, u table }{
		{rowsOf(2, 1, 1, 0, 1), rowsOf(2, -1, 0, 0, 1), rowsOf(2, -1, 1, 0, 1)}, // the chapter's
		{rowsOf(1, 5), rowsOf(1, 5), rowsOf(1, 1)},
		{rowsOf(1, -5), rowsOf(1, -5), rowsOf(1, 1)},
		{rowsOf(3, 0, -9, 4), rowsOf(3, 0, -9, 4), rowsOf(1, 1)},
		{rowsOf(2, 1, 0, 0, 1), rowsOf(2, 1, 0, 0, 1), rowsOf(2, 1, 0, 0, 1)},
		{rowsOf(2, 0, 3, -3, 1), rowsOf(2, 0, 3, -3, 1), rowsOf(2, 1, 0, 0, 1)},
		// m(2, 1) is just between two integers.
		{rowsOf(2, 2, 0, 1, 5), rowsOf(2, 2, 0, -1, 5), rowsOf(2, 1, 0, -1, 1)},
		{rowsOf(2, 2, 0, -1, 5), rowsOf(2, 2, 0, -1, 5), rowsOf(2, 1, 0, 0, 1)},
		{rowsOf(2, 2, 0, 3, 5), rowsOf(2, 2, 0, -1, 5), rowsOf(2, 1, 0, -2, 1)},
		{rowsOf(2, 2, 0, -3, 5), rowsOf(2, 2, 0, -1, 5), rowsOf(2, 1, 0, 1, 1)},
		{rowsOf(2, -2, 0, 1, 5), rowsOf(2, -2, 0, 1, 5), rowsOf(2, 1, 0, 0, 1)},
		{rowsOf(2, -2, 0, -1, 5), rowsOf(2, -2, 0, 1, 5), rowsOf(2, 1, 0, -1, 1)},
		// Beside that.
		{rowsOf(2, 200, 0, 99, 500), rowsOf(2, 200, 0, 99, 500), rowsOf(2, 1, 0, 0, 1)},
		{rowsOf(2, 200, 0, 101, 500), rowsOf(2, 200, 0, -99, 500), rowsOf(2, 1, 0, -1, 1)},
		{rowsOf(2, 200, 0, -101, 500), rowsOf(2, 200, 0, 99, 500), rowsOf(2, 1, 0, 1, 1)},
		// The last multiple is subtracted first: m(3, 1) is 1/2 only until then.
		{rowsOf(3, 10, 0, 0, 4, 10, 0, 5, 10, 20), rowsOf(3, 10, 0, 0, 4, 10, 0, 1, 0, 20), rowsOf(3, 1, 0, 0, 0, 1, 0, 0, -1, 1)},
		// m(3, 1) is 1/2 only after that, and below 1/2 if it were first.
		{rowsOf(3, 10, 0, 0, 4, 10, 0, 9, 10, 20), rowsOf(3, 10, 0, 0, 4, 10, 0, -5, 0, 20), rowsOf(3, 1, 0, 0, 0, 1, 0, -1, -1, 1)},
		// N(2) is 3/4 of N(1), and just less; the same with 1/2.
		{rowsOf(4, 20, 0, 0, 0, 0, 10, 10, 10), rowsOf(4, 20, 0, 0, 0, 0, 10, 10, 10), rowsOf(2, 1, 0, 0, 1)},
		{rowsOf(4, 20, 0, 0, 0, 0, 10, 10, 9), rowsOf(4, 0, 10, 10, 9, 20, 0, 0, 0), rowsOf(2, 0, 1, 1, 0)},
		{rowsOf(3, 20, 0, 0, -10, 10, 10), rowsOf(3, 20, 0, 0, -10, 10, 10), rowsOf(2, 1, 0, 0, 1)},
		{rowsOf(3, 20, 0, 0, -10, 10, 9), rowsOf(3, -10, 10, 9, 10, 10, 9), rowsOf(2, 0, 1, 1, 1)},
		// Row 3 goes to the front, from which the others follow one by one.
		{rowsOf(3, 9, 0, 0, 0, 5, 0, 0, 0, 2), rowsOf(3, 0, 0, 2, 0, 5, 0, 9, 0, 0), rowsOf(3, 0, 0, 1, 0, 1, 0, 1, 0, 0)},
	} {
		wantReduce(t, c.rows, c.want, c.u)
		wantReduce(t, grown(c.rows, 150), grown(c.want, 150), c.u)
		if rows, u := reduce(c.rows); !equal(rows, c.want) || !equal(u, c.u) {
			t.Fatalf("the test is wrong about %d: %d, %d", c.rows, rows, u)
		}
	}
}

func TestN3ReduceAgainstTheChapter(t *testing.T) {
	for _, a := range tables() {
		if !independent(a) {
			got, u, code := Reduce(made(a))
			wantNoTable(t, "Reduce of dependent rows", got, code, api.ErrNone)
			wantNoTable(t, "U of dependent rows", u, code, api.ErrNone)
			continue
		}
		rows, u := reduce(a)
		wantReduce(t, a, rows, u)
	}
}

// The lattice does not change, and the rows are reduced.
func TestN3Lattice(t *testing.T) {
	for _, a := range slices.Concat(mixedTables(), halves()) {
		if !independent(a) {
			continue
		}
		got, u, _ := Reduce(made(a))
		wantTable(t, "U times the original rows", got, product(read(u), a))
		if d := determinant(read(u)); d.CmpAbs(whole(1)) != 0 {
			t.Fatalf("the determinant of U is %d", d)
		}
		wantReduced(t, read(got), true)
		volume, code := Volume(got)
		wantInteger(t, "Volume of the result", volume, code, determinant(gram(a)))
	}
}

// What Reduce returns has each m(i, j) below 1/2, so that it stays as it is.
func TestN3ReduceTwice(t *testing.T) {
	for _, a := range tables() {
		if !independent(a) {
			continue
		}
		rows, _, _ := Reduce(made(a))
		got, u, code := Reduce(rows)
		wantCode(t, "Reduce of its result", code, api.OK)
		wantTable(t, "Reduce of its result", got, read(rows))
		wantTable(t, "U of a result", u, diagonal(len(a), whole(1)))
	}
}

// No row of the lattice is much shorter than the first one.
func TestN3FirstRow(t *testing.T) {
	for _, a := range slices.Concat(mixedTables(), halves()) {
		if len(a) > 4 || !independent(a) {
			continue
		}
		got, _, _ := Reduce(made(a))
		rows := read(got)
		first := dot(rows[0], rows[0])
		c := make([]int64, len(a))
		for i := range c {
			c[i] = -2
		}
		for more := true; more; more = advance(c, -2, 2) {
			v := product(table{wholes(c...)}, rows)[0]
			bound := new(big.Int).Lsh(dot(v, v), uint(len(a)-1))
			if bound.Sign() != 0 && first.Cmp(bound) > 0 {
				t.Fatalf("the first row of %d is more than 2^%d times as great as %d", rows, len(a)-1, v)
			}
		}
	}
}

// Great numbers and many rows, of which only the consequences are tested.
func TestN3ManySteps(t *testing.T) {
	s := source(88172645463325252)
	for _, c := range []struct{ rows, bits int }{{2, 4000}, {4, 900}, {10, 200}, {16, 60}, {24, 40}} {
		a := zeros(c.rows, c.rows+1)
		for i := range a {
			a[i][i], a[i][c.rows] = whole(1), plus(shifted(1, uint(c.bits)), int64(s.below(1<<30)))
			a[i][c.rows] = new(big.Int).Sub(a[i][c.rows], s.number(c.bits))
		}
		got, u, code := Reduce(made(a))
		wantCode(t, "Reduce", code, api.OK)
		wantTable(t, "U times the original rows", got, product(read(u), a))
		wantReduced(t, read(got), true)
		volume, code := Volume(got)
		before, _ := Volume(made(a))
		wantInteger(t, "Volume of the result", volume, code, value(before))
	}
}
