package lattice

import (
	"math/big"
	"slices"
	"testing"

	"hairline/api"
)

func wantInside(t *testing.T, a table, v, want []*big.Int) {
	t.Helper()
	for i, rows := range forms(a) {
		for k, form := range listForms(v) {
			got, code := Inside(rows, form)
			if want == nil {
				wantNoList(t, "Inside", got, code, api.ErrNone)
				continue
			}
			wantList(t, "Inside", got, code, want)
			if i == k {
				if sum := product(table{want}, a); !equal(sum, table{v}) {
					t.Fatalf("%d times %d is %d, want %d", want, a, sum, v)
				}
			}
		}
	}
}

func TestN2Examples(t *testing.T) {
	even := rowsOf(2, 2, 0, 0, 2)
	far := shifted(7, 140)
	for _, c := range []struct {
		rows    table
		v, want []*big.Int
	}{
		{even, wholes(4, -2), wholes(2, -1)},
		{even, wholes(1, 0), nil},
		{even, wholes(0, 1), nil},
		{even, wholes(3, 3), nil},
		{even, wholes(0, 0), wholes(0, 0)},
		{rowsOf(1, 3), wholes(-12), wholes(-4)},
		{rowsOf(1, 3), wholes(-11), nil},
		{rowsOf(1, -3), wholes(12), wholes(-4)},
		{rowsOf(3, 2, 4, -6), wholes(3, 6, -9), nil}, // 3/2 of the row
		{rowsOf(3, 2, 4, -6), wholes(-4, -8, 12), wholes(-2)},
		{rowsOf(3, 2, 4, -6), wholes(2, 4, -5), nil}, // outside of the span
		{rowsOf(2, 1, 2, 3, 4), wholes(0, 1), nil},   // 3/2 and -1/2
		{rowsOf(2, 1, 2, 3, 4), wholes(0, 2), wholes(3, -1)},
		{rowsOf(2, 1, 0, 1, 2), wholes(0, 1), nil}, // -1/2 and 1/2: the second is rounded up to 1
		{rowsOf(2, 1, 0, 1, 2), wholes(0, -1), nil},
		{rowsOf(3, 1, 0, 5, 0, 1, 7), wholes(3, -2, 1), wholes(3, -2)},
		{rowsOf(3, 1, 0, 5, 0, 1, 7), wholes(3, -2, 2), nil}, // outside of the span, near the lattice
		{rowsOf(3, 1, 0, 5, 0, 1, 7), wholes(0, 0, 1), nil},
		{rowsOf(3, 5, 0, 0, 0, 5, 0), wholes(5, 5, 1), nil},
		{rowsOf(3, 5, 0, 0, 0, 5, 0), wholes(0, 0, 0), wholes(0, 0)},
		{table{{far, whole(1)}, {plus(far, 1), whole(1)}}, []*big.Int{plus(far, -4), whole(1)}, wholes(5, -4)},
		{table{{far, whole(1)}, {plus(far, 1), whole(1)}}, wholes(1, 0), wholes(-1, 1)},
		{table{{far, whole(1)}}, []*big.Int{new(big.Int).Neg(times(far, far)), new(big.Int).Neg(far)}, []*big.Int{new(big.Int).Neg(far)}},
		{table{{far, whole(1)}}, []*big.Int{far, whole(2)}, nil},
	} {
		wantInside(t, c.rows, c.v, c.want)
	}
}

// The rows come times integers, and the sum times 1, plus 1 in one place, and halved.
func TestN2Inside(t *testing.T) {
	s := source(2463534242)
	var found, missed, halved int
	for _, a := range slices.Concat(mixedTables(), halves()) {
		if !independent(a) {
			continue
		}
		for _, bits := range []int{2, 90} {
			c := s.list(len(a), bits)
			v := product(table{c}, a)[0]
			wantInside(t, a, v, c)
			at := s.below(len(v))
			v[at] = plus(v[at], 1)
			want := inside(a, v)
			wantInside(t, a, v, want)
			if want == nil {
				missed++
			} else {
				found++
			}
			double := grown(a, 1)
			v = product(table{c}, a)[0]
			want = inside(double, v)
			wantInside(t, double, v, want)
			if want == nil {
				halved++
			}
		}
		wantInside(t, a, wholes(make([]int64, len(a[0]))...), wholes(make([]int64, len(a))...))
	}
	if found < 5 || missed < 100 || halved < 100 {
		t.Fatalf("samples: %d in the lattice beside a sum, %d not, %d with halves", found, missed, halved)
	}
}

func TestN2SmallTables(t *testing.T) {
	for _, a := range smallTables() {
		if len(a) > 2 || !independent(a) {
			continue
		}
		for x := range int64(5) {
			for y := range int64(5) {
				v := wholes(x-2, y-2)
				want := inside(a, v)
				got, code := Inside(made(a), integers(v))
				if want == nil {
					wantNoList(t, "Inside", got, code, api.ErrNone)
				} else {
					wantList(t, "Inside", got, code, want)
				}
			}
		}
	}
}

// With dependent rows there is no result, even if v is one of them, or 0.
func TestN2DependentRows(t *testing.T) {
	for _, a := range dependent() {
		for _, rows := range forms(a) {
			last := rows[len(rows)-1]
			for _, v := range [][]api.Int{rows[0], last, make([]api.Int, len(last)), integers(plusOne(a[0]))} {
				got, code := Inside(rows, v)
				wantNoList(t, "Inside of dependent rows", got, code, api.ErrNone)
			}
		}
	}
}

func plusOne(l []*big.Int) []*big.Int {
	out := slices.Clone(l)
	out[0] = plus(out[0], 1)
	return out
}

func TestN2Wrong(t *testing.T) {
	for _, bad := range noMatrix() {
		for _, v := range [][]api.Int{nil, {}, {{}}, of(2, 1, 2)[0], of(3, 1, 2, 3)[0]} {
			got, code := Inside(bad, v)
			wantNoList(t, "Inside of no matrix", got, code, api.ErrArg)
		}
		if len(bad) > 0 {
			got, code := Inside(bad, bad[0])
			wantNoList(t, "Inside of no matrix", got, code, api.ErrArg)
		}
	}
	for _, a := range []table{rowsOf(2, 2, 0, 0, 2), rowsOf(2, 1, 2), rowsOf(2, 1, 2, 1, 2), zeros(3, 2)} {
		for _, v := range [][]api.Int{nil, {}, {{}}, of(1, 2)[0], of(3, 2, 0, 0)[0], of(4, 0, 0, 0, 0)[0]} {
			got, code := Inside(made(a), v)
			wantNoList(t, "Inside of another length", got, code, api.ErrArg)
		}
	}
}
