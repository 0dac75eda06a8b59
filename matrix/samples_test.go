package matrix

import (
	"math/big"
	"slices"
	"testing"

	"hairline/api"
)

const full = 1<<64 - 1

// source is a xorshift generator: the same matrices at each run.
type source uint64

func (s *source) next() uint64 {
	x := uint64(*s)
	x ^= x << 13
	x ^= x >> 7
	x ^= x << 17
	*s = source(x)
	return x
}

func (s *source) below(n int) int {
	return int(s.next() >> 1 % uint64(n))
}

// number makes an integer of up to so many bits; one in four is small, one in eight
// lies beside a power of 2^64.
func (s *source) number(bits int) *big.Int {
	x := new(big.Int)
	for range bits/64 + 1 {
		x.Lsh(x, 64).Or(x, new(big.Int).SetUint64(s.next()))
	}
	x.Rsh(x, uint(s.below(bits)+64-bits%64))
	switch s.below(8) {
	case 0, 1:
		x.SetInt64(int64(s.below(4)))
	case 2:
		x.Lsh(whole(1), 64*uint(s.below(3)))
		x.Add(x, whole(int64(s.below(3))-1))
	}
	if s.below(2) == 0 {
		x.Neg(x)
	}
	return x
}

// list makes n numbers, of which about one in four is 0.
func (s *source) list(n, bits int) []*big.Int {
	out := make([]*big.Int, n)
	for i := range out {
		out[i] = s.number(bits)
		if s.below(4) == 0 {
			out[i] = new(big.Int)
		}
	}
	return out
}

func (s *source) table(rows, columns, bits int) table {
	var out table
	for range rows {
		out = append(out, s.list(columns, bits))
	}
	return out
}

// thin makes a table of a rank of at most r.
func (s *source) thin(rows, columns, r, bits int) table {
	if r == 0 {
		return zeros(rows, columns)
	}
	return product(s.table(rows, r, bits), s.table(r, columns, bits))
}

func whole(n int64) *big.Int {
	return big.NewInt(n)
}

func wholes(l ...int64) []*big.Int {
	out := make([]*big.Int, len(l))
	for i, n := range l {
		out[i] = whole(n)
	}
	return out
}

// shifted is x times 2^n.
func shifted(x int64, n uint) *big.Int {
	return new(big.Int).Lsh(whole(x), n)
}

// table is a matrix in another arithmetic than the program's.
type table [][]*big.Int

// rowsOf puts numbers into rows of the given length.
func rowsOf(columns int, l ...int64) table {
	var out table
	for part := range slices.Chunk(l, columns) {
		out = append(out, wholes(part...))
	}
	return out
}

func zeros(rows, columns int) table {
	return rowsOf(columns, make([]int64, rows*columns)...)
}

func equal(a, b table) bool {
	return slices.EqualFunc(a, b, equalList)
}

func equalList(a, b []*big.Int) bool {
	return slices.EqualFunc(a, b, func(x, y *big.Int) bool { return x.Cmp(y) == 0 })
}

// integer makes an integer without the help of the layers below.
func integer(x *big.Int) api.Int {
	out := api.Int{Neg: x.Sign() < 0}
	mask := new(big.Int).SetUint64(full)
	for rest := new(big.Int).Abs(x); rest.Sign() > 0; rest.Rsh(rest, 64) {
		out.Mag = append(out.Mag, new(big.Int).And(rest, mask).Uint64())
	}
	return out
}

// value tells what an integer means.
func value(a api.Int) *big.Int {
	out := new(big.Int)
	for _, x := range slices.Backward(a.Mag) {
		out.Lsh(out, 64).Or(out, new(big.Int).SetUint64(x))
	}
	if a.Neg {
		out.Neg(out)
	}
	return out
}

// long adds leading zero limbs, and sets Neg for the value 0.
func long(a api.Int) api.Int {
	return api.Int{Neg: a.Neg || len(a.Mag) == 0, Mag: append(slices.Clone(a.Mag), 0, 0)}
}

func integers(l []*big.Int) []api.Int {
	var out []api.Int
	for _, x := range l {
		out = append(out, integer(x))
	}
	return out
}

func longs(l []*big.Int) []api.Int {
	out := integers(l)
	for i := range out {
		out[i] = long(out[i])
	}
	return out
}

// made is a with elements in normal form.
func made(a table) [][]api.Int {
	var out [][]api.Int
	for _, row := range a {
		out = append(out, integers(row))
	}
	return out
}

func of(columns int, l ...int64) [][]api.Int {
	return made(rowsOf(columns, l...))
}

// forms are two ways to write a matrix: with elements in normal form and without.
func forms(a table) [][][]api.Int {
	longer := made(a)
	for i := range a {
		longer[i] = longs(a[i])
	}
	return [][][]api.Int{made(a), longer}
}

// polyForms are ways to write a polynomial: in normal form, with zeros at its end,
// and with coefficients that are not in normal form as well.
func polyForms(p []*big.Int) []api.Poly {
	zero := []api.Int{{}, {Neg: true}, {Mag: []uint64{0, 0}}}
	return []api.Poly{integers(p), append(integers(p), zero[0]), append(longs(p), zero...)}
}

// noMatrix are lists of rows that are not valid.
func noMatrix() [][][]api.Int {
	row := func(n int) []api.Int { return integers(wholes([]int64{5, -3, 7, 2}[:n]...)) }
	return [][][]api.Int{
		nil, {}, // no row
		{nil}, {{}}, {nil, nil}, {{}, {}, {}}, // rows with no element
		{row(2), row(1)}, {row(1), row(2)}, {row(3), row(3), row(2)}, {row(2), row(2), row(3)}, // of different lengths
		{row(2), row(1), row(2)}, {row(2), row(3), row(2)}, {row(1), row(2), row(3)},
		{row(2), nil}, {nil, row(2)}, {{}, row(1)}, {row(1), {}}, {row(3), row(1), row(2)}, // square if lengths are added up
		{row(2), row(2), nil}, {nil, row(2), row(2)},
	}
}

// notSquare are matrices that are valid, but not square.
func notSquare() []table {
	return []table{rowsOf(2, 1, 2), rowsOf(1, 1, 2), rowsOf(3, 1, 2, 3, 4, 5, 6), rowsOf(2, 1, 2, 3, 4, 5, 6), zeros(1, 4), zeros(4, 1), zeros(4, 3)}
}

// smallSquares are all tables of one row with an element from -3 to 3, all of two
// rows with elements from -2 to 2, and all of three rows with elements from -1 to 1.
func smallSquares() []table {
	var out []table
	for _, kind := range []struct{ size, least, count int }{{1, -3, 7}, {2, -2, 5}, {3, -1, 3}} {
		l := make([]int64, kind.size*kind.size)
		for i := range l {
			l[i] = int64(kind.least)
		}
		for more := true; more; {
			out = append(out, rowsOf(kind.size, l...))
			more = advance(l, int64(kind.least), int64(kind.least+kind.count-1))
		}
	}
	return out
}

// advance turns l into the next list of numbers from least to most, if there is one.
func advance(l []int64, least, most int64) bool {
	for i := range l {
		if l[i] < most {
			l[i]++
			return true
		}
		l[i] = least
	}
	return false
}

// mixedSquares have up to 6 rows, elements of up to some 200 bits, and all ranks.
func mixedSquares() []table {
	s := source(2463534242)
	var out []table
	for n := 1; n <= 6; n++ {
		for _, bits := range []int{4, 70, 200} {
			out = append(out, s.table(n, n, bits), s.table(n, n, bits))
			for r := range n {
				out = append(out, s.thin(n, n, r, bits/2), s.thin(n, n, r, 4))
			}
		}
	}
	return out
}

func squares() []table {
	return append(smallSquares(), mixedSquares()...)
}

// oblongs have from 1 to 5 rows and columns, and all ranks.
func oblongs() []table {
	s := source(88172645463325252)
	var out []table
	for rows := 1; rows <= 5; rows++ {
		for columns := 1; columns <= 5; columns++ {
			out = append(out, s.table(rows, columns, 3), s.table(rows, columns, 130))
			for r := range min(rows, columns) {
				out = append(out, s.thin(rows, columns, r, 3), s.thin(rows, columns, r, 70))
			}
		}
	}
	return out
}

func wantNormal(t *testing.T, what string, got api.Int) {
	t.Helper()
	if n := len(got.Mag); n > 0 && got.Mag[n-1] == 0 {
		t.Fatalf("%s: leading zero limb in %x", what, got.Mag)
	}
	if len(got.Mag) == 0 && got.Neg {
		t.Fatalf("%s: Neg is set for 0", what)
	}
}

func wantInteger(t *testing.T, what string, got api.Int, want *big.Int) {
	t.Helper()
	wantNormal(t, what, got)
	if value(got).Cmp(want) != 0 {
		t.Fatalf("%s: %d, want %d", what, value(got), want)
	}
}

func wantList(t *testing.T, what string, got []api.Int, want []*big.Int) {
	t.Helper()
	wantTable(t, what, [][]api.Int{got}, table{want})
}

func wantTable(t *testing.T, what string, got [][]api.Int, want table) {
	t.Helper()
	read := make(table, len(got))
	for i, row := range got {
		for _, x := range row {
			wantNormal(t, what, x)
			read[i] = append(read[i], value(x))
		}
	}
	if !equal(read, want) {
		t.Fatalf("%s: %d, want %d", what, read, want)
	}
}

func wantCode(t *testing.T, what string, got, want api.Errno) {
	t.Helper()
	if got != want {
		t.Fatalf("%s: error %d, want %d", what, got, want)
	}
}

// wantNoTable is for what stands beside an error.
func wantNoTable(t *testing.T, what string, got [][]api.Int, code, want api.Errno) {
	t.Helper()
	wantCode(t, what, code, want)
	if len(got) != 0 {
		t.Fatalf("%s: %v beside an error", what, got)
	}
}

func wantNoInteger(t *testing.T, what string, got api.Int, code, want api.Errno) {
	t.Helper()
	wantCode(t, what, code, want)
	if got.Neg || len(got.Mag) != 0 {
		t.Fatalf("%s: %v beside an error", what, got)
	}
}
