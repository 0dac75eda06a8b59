package lattice

import (
	"math/big"
	"slices"
	"testing"

	"hairline/api"
)

const full = 1<<64 - 1

// source is a xorshift generator: the same rows at each run.
type source uint64

func (s *source) next() uint64 {
	x := uint64(*s)
	x ^= x << 13
	x ^= x >> 7
	x ^= x << 17
	*s = source(x)
	return x
}

func (s *source) below(n int) int {
	return int(s.next() >> 1 % uint64(n))
}

// number makes an integer of up to so many bits; one in four is small.
func (s *source) number(bits int) *big.Int {
	x := new(big.Int)
	for range bits/64 + 1 {
		x.Lsh(x, 64).Or(x, new(big.Int).SetUint64(s.next()))
	}
	x.Rsh(x, uint(s.below(bits)+64-bits%64))
	if s.below(4) == 0 {
		x.SetInt64(int64(s.below(4)))
	}
	if s.below(2) == 0 {
		x.Neg(x)
	}
	return x
}

func (s *source) list(n, bits int) []*big.Int {
	out := make([]*big.Int, n)
	for i := range out {
		out[i] = s.number(bits)
	}
	return out
}

func (s *source) table(rows, columns, bits int) table {
	var out table
	for range rows {
		out = append(out, s.list(columns, bits))
	}
	return out
}

// thin makes a table of a rank of at most r, which is at least 1.
func (s *source) thin(rows, columns, r, bits int) table {
	return product(s.table(rows, r, bits), s.table(r, columns, bits))
}

func whole(n int64) *big.Int {
	return big.NewInt(n)
}

func wholes(l ...int64) []*big.Int {
	out := make([]*big.Int, len(l))
	for i, n := range l {
		out[i] = whole(n)
	}
	return out
}

// shifted is x times 2^n.
func shifted(x int64, n uint) *big.Int {
	return new(big.Int).Lsh(whole(x), n)
}

func plus(x *big.Int, n int64) *big.Int {
	return new(big.Int).Add(x, whole(n))
}

// table is a list of rows in another arithmetic than the program's.
type table [][]*big.Int

// rowsOf puts numbers into rows of the given length.
func rowsOf(columns int, l ...int64) table {
	var out table
	for part := range slices.Chunk(l, columns) {
		out = append(out, wholes(part...))
	}
	return out
}

func zeros(rows, columns int) table {
	return rowsOf(columns, make([]int64, rows*columns)...)
}

// diagonal has c in its diagonal, and 0 elsewhere.
func diagonal(n int, c *big.Int) table {
	out := zeros(n, n)
	for i := range n {
		out[i][i] = c
	}
	return out
}

// grown is a with each element times 2^n.
func grown(a table, n uint) table {
	var out table
	for _, row := range a {
		out = append(out, scaled(row, shifted(1, n)))
	}
	return out
}

func equal(a, b table) bool {
	return slices.EqualFunc(a, b, func(x, y []*big.Int) bool {
		return slices.EqualFunc(x, y, func(m, n *big.Int) bool { return m.Cmp(n) == 0 })
	})
}

// integer makes an integer without the help of the layers below.
func integer(x *big.Int) api.Int {
	out := api.Int{Neg: x.Sign() < 0}
	mask := new(big.Int).SetUint64(full)
	for rest := new(big.Int).Abs(x); rest.Sign() > 0; rest.Rsh(rest, 64) {
		out.Mag = append(out.Mag, new(big.Int).And(rest, mask).Uint64())
	}
	return out
}

// value tells what an integer means.
func value(a api.Int) *big.Int {
	out := new(big.Int)
	for _, x := range slices.Backward(a.Mag) {
		out.Lsh(out, 64).Or(out, new(big.Int).SetUint64(x))
	}
	if a.Neg {
		out.Neg(out)
	}
	return out
}

// read is made backwards.
func read(a [][]api.Int) table {
	out := make(table, len(a))
	for i, row := range a {
		for _, x := range row {
			out[i] = append(out[i], value(x))
		}
	}
	return out
}

// long adds leading zero limbs, and sets Neg for the value 0.
func long(a api.Int) api.Int {
	return api.Int{Neg: a.Neg || len(a.Mag) == 0, Mag: append(slices.Clone(a.Mag), 0, 0)}
}

func integers(l []*big.Int) []api.Int {
	var out []api.Int
	for _, x := range l {
		out = append(out, integer(x))
	}
	return out
}

// made is a with elements in normal form.
func made(a table) [][]api.Int {
	var out [][]api.Int
	for _, row := range a {
		out = append(out, integers(row))
	}
	return out
}

func of(columns int, l ...int64) [][]api.Int {
	return made(rowsOf(columns, l...))
}

// listForms are two ways to write a list: in normal form and without.
func listForms(l []*big.Int) [][]api.Int {
	longer := integers(l)
	for i := range longer {
		longer[i] = long(longer[i])
	}
	return [][]api.Int{integers(l), longer}
}

// forms are two ways to write rows.
func forms(a table) [][][]api.Int {
	out := make([][][]api.Int, 2)
	for _, row := range a {
		for i, form := range listForms(row) {
			out[i] = append(out[i], form)
		}
	}
	return out
}

// noMatrix are lists of rows that are not valid.
func noMatrix() [][][]api.Int {
	row := func(n int) []api.Int { return integers(wholes([]int64{5, -3, 7, 2}[:n]...)) }
	return [][][]api.Int{
		nil, {}, // no row
		{nil}, {{}}, {nil, nil}, {{}, {}, {}}, // rows with no element
		{row(2), row(1)}, {row(1), row(2)}, {row(3), row(3), row(2)}, {row(2), row(2), row(3)}, // of different lengths
		{row(2), row(1), row(2)}, {row(2), row(3), row(2)}, {row(1), row(2), row(3)},
		{row(2), nil}, {nil, row(2)}, {{}, row(1)}, {row(1), {}}, {row(3), row(1), row(2)},
		{row(2), row(2), nil}, {nil, row(2), row(2)},
	}
}

// dependent are rows that are not independent.
func dependent() []table {
	s := source(521288629)
	far := shifted(5, 150)
	return []table{
		rowsOf(1, 0), zeros(1, 3), zeros(2, 3), rowsOf(2, 0, 0, 1, 2), rowsOf(2, 1, 2, 0, 0), rowsOf(3, 1, 2, 3, 0, 0, 0, 4, 5, 6), // rows of zeros
		rowsOf(2, 1, 2, 1, 2), rowsOf(3, 1, 2, 3, 4, 5, 6, 1, 2, 3), rowsOf(2, 1, 2, -1, -2), rowsOf(2, 2, 4, 3, 6), // one row twice, or multiples
		rowsOf(1, 1, 2), rowsOf(1, 2, 3, 5), rowsOf(2, 1, 0, 0, 1, 1, 1), rowsOf(2, 3, 1, 1, 4, 2, 9, 7, 7), // more rows than columns
		rowsOf(3, 1, 2, 3, 4, 5, 6, 7, 8, 9), rowsOf(3, 2, 0, 0, 0, 2, 0, 1, 1, 0), // a row in the span of others, not in their lattice
		{{far, plus(far, 1)}, {far, plus(far, 1)}}, {scaled(wholes(3, 4), far), scaled(wholes(-6, -8), far)}, {{far}, {plus(far, 1)}},
		s.thin(3, 4, 2, 100), s.thin(4, 4, 3, 100), s.thin(5, 3, 3, 70), s.thin(6, 6, 5, 30),
	}
}

// smallTables are all tables of one row with two elements from -2 to 2, all of two rows
// with elements from -3 to 3, and all of three rows with elements from -1 to 1 that have
// -1 or 0 as the first one.
func smallTables() []table {
	var out []table
	for _, kind := range []struct{ columns, count, least, most int }{{2, 2, -2, 2}, {2, 4, -3, 3}, {3, 9, -1, 1}} {
		l := make([]int64, kind.count)
		for i := range l {
			l[i] = int64(kind.least)
		}
		for more := true; more; {
			if l[0] <= 0 || kind.count < 9 {
				out = append(out, rowsOf(kind.columns, l...))
			}
			more = advance(l, int64(kind.least), int64(kind.most))
		}
	}
	return out
}

// advance turns l into the next list of numbers from least to most, if there is one.
func advance(l []int64, least, most int64) bool {
	for i := range l {
		if l[i] < most {
			l[i]++
			return true
		}
		l[i] = least
	}
	return false
}

// mixedTables have up to 6 rows, no fewer columns than rows, and elements of up to some
// 200 bits. Nearly all of them are independent. There are rows in which multiples of
// the others are added, and rows of one great column, which take many steps.
func mixedTables() []table {
	s := source(2463534242)
	var out []table
	for n := 1; n <= 6; n++ {
		for _, bits := range []int{3, 5, 70, 200} {
			a := s.table(n, n, bits)
			out = append(out, a, s.table(n, n+1, bits), s.table(n, n+3, bits), product(s.table(n, n, 6), a))
			narrow := zeros(n, n+1)
			for i := range n {
				narrow[i][i], narrow[i][n] = whole(1), s.number(bits)
			}
			out = append(out, narrow)
		}
	}
	return out
}

// halves are tables in which many m(i, j) are odd multiples of 1/2: each row is the sum
// of halves of other rows, all times 2.
func halves() []table {
	s := source(88172645463325252)
	var out []table
	for n := 2; n <= 5; n++ {
		for _, bits := range []uint{1, 2, 66} {
			for range 6 {
				a := diagonal(n, shifted(1, bits))
				for i := range n {
					for k := range i {
						a[i][k] = new(big.Int).Lsh(whole(int64(s.below(9)-4)), bits-1)
					}
				}
				out = append(out, a)
			}
		}
	}
	return out
}

func tables() []table {
	return slices.Concat(smallTables(), mixedTables(), halves(), dependent())
}

func wantNormal(t *testing.T, what string, got api.Int) {
	t.Helper()
	if n := len(got.Mag); n > 0 && got.Mag[n-1] == 0 {
		t.Fatalf("%s: leading zero limb in %x", what, got.Mag)
	}
	if len(got.Mag) == 0 && got.Neg {
		t.Fatalf("%s: Neg is set for 0", what)
	}
}

func wantInteger(t *testing.T, what string, got api.Int, code api.Errno, want *big.Int) {
	t.Helper()
	wantCode(t, what, code, api.OK)
	wantNormal(t, what, got)
	if value(got).Cmp(want) != 0 {
		t.Fatalf("%s: %d, want %d", what, value(got), want)
	}
}

func wantList(t *testing.T, what string, got []api.Int, code api.Errno, want []*big.Int) {
	t.Helper()
	wantCode(t, what, code, api.OK)
	wantTable(t, what, [][]api.Int{got}, table{want})
}

func wantTable(t *testing.T, what string, got [][]api.Int, want table) {
	t.Helper()
	for _, row := range got {
		for _, x := range row {
			wantNormal(t, what, x)
		}
	}
	if !equal(read(got), want) {
		t.Fatalf("%s: %d, want %d", what, read(got), want)
	}
}

func wantCode(t *testing.T, what string, got, want api.Errno) {
	t.Helper()
	if got != want {
		t.Fatalf("%s: error %d, want %d", what, got, want)
	}
}

// wantNoInteger is for what stands beside an error.
func wantNoInteger(t *testing.T, what string, got api.Int, code, want api.Errno) {
	t.Helper()
	wantCode(t, what, code, want)
	if got.Neg || len(got.Mag) != 0 {
		t.Fatalf("%s: %v beside an error", what, got)
	}
}

func wantNoList(t *testing.T, what string, got []api.Int, code, want api.Errno) {
	t.Helper()
	wantCode(t, what, code, want)
	if len(got) != 0 {
		t.Fatalf("%s: %v beside an error", what, got)
	}
}

func wantNoTable(t *testing.T, what string, got [][]api.Int, code, want api.Errno) {
	t.Helper()
	wantCode(t, what, code, want)
	if len(got) != 0 {
		t.Fatalf("%s: %v beside an error", what, got)
	}
}
