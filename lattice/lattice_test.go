package lattice

import (
	"math/big"
	"slices"
	"testing"

	"hairline/api"
)

func TestN1Dot(t *testing.T) {
	far := shifted(-3, 130)
	for _, c := range []struct {
		a, b []*big.Int
		want *big.Int
	}{
		{wholes(1, 2, 3), wholes(4, 5, 6), whole(32)},
		{wholes(7), wholes(-2), whole(-14)},
		{wholes(1, 1), wholes(0, 1), whole(1)},
		{wholes(2, 3), wholes(3, -2), whole(0)},
		{wholes(0, 0), wholes(5, 6), whole(0)},
		{[]*big.Int{far, whole(5)}, []*big.Int{far, whole(-1)}, plus(shifted(9, 260), -5)},
		{[]*big.Int{far, far}, []*big.Int{far, shifted(3, 130)}, whole(0)},
		{[]*big.Int{shifted(1, 64), plus(shifted(1, 64), -1)}, wholes(1, -1), whole(1)},
	} {
		for i, a := range listForms(c.a) {
			for k, b := range listForms(c.b) {
				got, code := Dot(a, b)
				wantInteger(t, "Dot", got, code, c.want)
				got, code = Dot(b, a)
				wantInteger(t, "Dot the other way round", got, code, c.want)
				if i == k {
					got, code = Dot(a, a)
					wantInteger(t, "Dot of a list and itself", got, code, dot(c.a, c.a))
				}
			}
		}
	}
}

func TestN1DotOfNothing(t *testing.T) {
	for _, c := range [][2][]api.Int{{nil, nil}, {{}, {}}, {nil, {}}, {{}, nil}} {
		got, code := Dot(c[0], c[1])
		wantInteger(t, "Dot of empty lists", got, code, whole(0))
	}
}

func TestN1DotOfDifferentLengths(t *testing.T) {
	lists := [][]api.Int{nil, of(1, 5)[0], of(2, 5, 6)[0], of(3, 5, 6, 7)[0], of(3, 5, 6, 0)[0], {{}, {}, {}, {}}}
	for _, a := range lists {
		for _, b := range lists {
			if len(a) != len(b) {
				got, code := Dot(a, b)
				wantNoInteger(t, "Dot of different lengths", got, code, api.ErrArg)
			}
		}
	}
	got, code := Dot([]api.Int{}, of(1, 0)[0])
	wantNoInteger(t, "Dot of none and one", got, code, api.ErrArg)
}

func TestN1GramExamples(t *testing.T) {
	for _, c := range []struct{ rows, want table }{
		{rowsOf(2, 1, 1, 0, 1), rowsOf(2, 2, 1, 1, 1)},
		{rowsOf(3, 1, 2, 3, 4, 5, 6), rowsOf(2, 14, 32, 32, 77)},
		{rowsOf(1, 2, -3, 5), rowsOf(3, 4, -6, 10, -6, 9, -15, 10, -15, 25)},
		{rowsOf(3, 2, -3, 5), rowsOf(1, 38)},
		{rowsOf(1, -7), rowsOf(1, 49)},
		{zeros(2, 3), zeros(2, 2)},
		{grown(rowsOf(2, 1, 2, 3, -4), 100), grown(rowsOf(2, 5, -5, -5, 25), 200)},
	} {
		for _, rows := range forms(c.rows) {
			got, code := Gram(rows)
			wantCode(t, "Gram", code, api.OK)
			wantTable(t, "Gram", got, c.want)
		}
	}
}

func TestN1Gram(t *testing.T) {
	for _, a := range slices.Concat(mixedTables(), halves(), dependent()) {
		for _, rows := range forms(a) {
			got, code := Gram(rows)
			wantCode(t, "Gram", code, api.OK)
			wantTable(t, "Gram", got, gram(a))
			wantTable(t, "Gram, transposed", got, turned(gram(a)))
			for i := range got {
				for k := range got {
					x, code := Dot(rows[i], rows[k])
					wantInteger(t, "Dot of two rows", x, code, value(got[i][k]))
				}
			}
		}
	}
}

func TestN1GramOfNoMatrix(t *testing.T) {
	for _, bad := range noMatrix() {
		got, code := Gram(bad)
		wantNoTable(t, "Gram of no matrix", got, code, api.ErrArg)
	}
}

func TestN1VolumeExamples(t *testing.T) {
	for _, c := range []struct {
		rows table
		want *big.Int
	}{
		{rowsOf(2, 1, 1, 0, 1), whole(1)},
		{rowsOf(3, 1, 2, 3, 4, 5, 6), whole(54)},
		{rowsOf(1, -7), whole(49)},
		{rowsOf(1, 1), whole(1)},
		{rowsOf(3, 2, -3, 5), whole(38)},
		{rowsOf(2, 1, 2, 3, 4), whole(4)},
		{rowsOf(3, 0, 0, 2, 0, 3, 0, 5, 0, 0), whole(900)},
		{diagonal(4, shifted(-3, 70)), shifted(6561, 560)},
		{grown(rowsOf(3, 1, 2, 3, 4, 5, 6), 100), shifted(54, 400)},
		{rowsOf(2, 1, 2, 2, 4), whole(0)},
		{rowsOf(1, 1, 2), whole(0)},
	} {
		for _, rows := range forms(c.rows) {
			got, code := Volume(rows)
			wantInteger(t, "Volume", got, code, c.want)
		}
	}
}

func TestN1Volume(t *testing.T) {
	for _, a := range tables() {
		want := determinant(gram(a))
		for _, rows := range forms(a) {
			got, code := Volume(rows)
			wantInteger(t, "Volume", got, code, want)
		}
	}
}

func TestN1VolumeOfDependentRows(t *testing.T) {
	for _, a := range dependent() {
		for _, rows := range forms(a) {
			got, code := Volume(rows)
			wantInteger(t, "Volume of dependent rows", got, code, whole(0))
		}
	}
}

func TestN1VolumeOfNoMatrix(t *testing.T) {
	for _, bad := range noMatrix() {
		got, code := Volume(bad)
		wantNoInteger(t, "Volume of no matrix", got, code, api.ErrArg)
	}
}
