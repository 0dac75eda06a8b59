package grid

import (
	"math/big"
	"slices"
	"testing"

	"hairline/api"
)

const full = 1<<64 - 1

// source is a xorshift generator: the same grids at each run.
type source uint64

func (s *source) next() uint64 {
	x := uint64(*s)
	x ^= x << 13
	x ^= x >> 7
	x ^= x << 17
	*s = source(x)
	return x
}

func (s *source) below(n int) int {
	return int(s.next() >> 1 % uint64(n))
}

// number makes an integer of up to so many bits; one in four is small, one in eight
// lies beside a power of 2^64, and about one in four is 0.
func (s *source) number(bits int) *big.Int {
	x := new(big.Int)
	for range bits/64 + 1 {
		x.Lsh(x, 64).Or(x, new(big.Int).SetUint64(s.next()))
	}
	x.Rsh(x, uint(s.below(bits)+64-bits%64))
	switch s.below(8) {
	case 0, 1:
		x.SetInt64(int64(s.below(4)))
	case 2:
		x.Lsh(whole(1), 64*uint(s.below(3)))
		x.Add(x, whole(int64(s.below(3))-1))
	}
	if s.below(2) == 0 {
		x.Neg(x)
	}
	if s.below(5) == 0 {
		x.SetInt64(0)
	}
	return x
}

// sheet makes a grid of at most these degrees. About one row in four is empty.
func (s *source) sheet(x, y, bits int) sheet {
	var out sheet
	for range x + 1 {
		var row []*big.Int
		if s.below(4) > 0 {
			for range y + 1 {
				row = append(row, s.number(bits))
			}
		}
		out = append(out, row)
	}
	return cut(out)
}

func whole(n int64) *big.Int {
	return big.NewInt(n)
}

// shifted is x times 2^n.
func shifted(x int64, n uint) *big.Int {
	return new(big.Int).Lsh(whole(x), n)
}

// sheet is a grid in normal form, in another arithmetic than the program's.
type sheet [][]*big.Int

func list(l ...int64) []*big.Int {
	var out []*big.Int
	for _, n := range l {
		out = append(out, whole(n))
	}
	return out
}

func sheetOf(rows ...[]int64) sheet {
	var out sheet
	for _, row := range rows {
		out = append(out, list(row...))
	}
	return cut(out)
}

// monomial is c x^x y^y.
func monomial(c int64, x, y int) sheet {
	out := make(sheet, x+1)
	out[x] = append(list(make([]int64, y)...), whole(c))
	return out
}

// cut takes zeros and empty rows off the ends, which makes normal forms.
func cut(g sheet) sheet {
	var out sheet
	for _, row := range g {
		out = append(out, cutList(row))
	}
	for len(out) > 0 && len(out[len(out)-1]) == 0 {
		out = out[:len(out)-1]
	}
	return out
}

func cutList(l []*big.Int) []*big.Int {
	n := len(l)
	for n > 0 && l[n-1].Sign() == 0 {
		n--
	}
	return l[:n]
}

func equal(g, h sheet) bool {
	return slices.EqualFunc(g, h, equalList)
}

func equalList(a, b []*big.Int) bool {
	return slices.EqualFunc(a, b, func(x, y *big.Int) bool { return x.Cmp(y) == 0 })
}

// integer makes an integer without the help of the layers below.
func integer(x *big.Int) api.Int {
	out := api.Int{Neg: x.Sign() < 0}
	mask := new(big.Int).SetUint64(full)
	for rest := new(big.Int).Abs(x); rest.Sign() > 0; rest.Rsh(rest, 64) {
		out.Mag = append(out.Mag, new(big.Int).And(rest, mask).Uint64())
	}
	return out
}

// value tells what an integer means.
func value(a api.Int) *big.Int {
	out := new(big.Int)
	for _, x := range slices.Backward(a.Mag) {
		out.Lsh(out, 64).Or(out, new(big.Int).SetUint64(x))
	}
	if a.Neg {
		out.Neg(out)
	}
	return out
}

// long adds leading zero limbs, and sets Neg for the value 0.
func long(a api.Int) api.Int {
	return api.Int{Neg: a.Neg || len(a.Mag) == 0, Mag: append(slices.Clone(a.Mag), 0, 0)}
}

func integers(l []*big.Int) []api.Int {
	var out []api.Int
	for _, x := range l {
		out = append(out, integer(x))
	}
	return out
}

// made is g in normal form, made without the package's help.
func made(g sheet) api.Grid {
	var out api.Grid
	for _, row := range g {
		out = append(out, integers(row))
	}
	return out
}

func of(rows ...[]int64) api.Grid {
	return made(sheetOf(rows...))
}

func zeros() []api.Int {
	return []api.Int{{}, {Neg: true}, {Mag: []uint64{0, 0}}, {Neg: true, Mag: []uint64{0}}}
}

// forms are ways to write one grid: in normal form, with zeros at the ends of its rows
// and empty rows at its own end, with numbers that are not in normal form, and with
// all of that.
func forms(g sheet) []api.Grid {
	ended, longer, both := made(g), made(g), made(g)
	for i := range g {
		ended[i] = append(ended[i], zeros()[:i%3]...)
		for k := range longer[i] {
			longer[i][k] = long(longer[i][k])
		}
		both[i] = append(slices.Clone(longer[i]), zeros()[i%4:]...)
	}
	return []api.Grid{made(g), append(ended, nil, nil), longer, append(both, []api.Int{}, zeros(), nil, zeros()[1:2])}
}

// noughts are ways to write the grid 0.
func noughts() []api.Grid {
	return []api.Grid{
		nil, {}, // no row
		{nil}, {{}}, {nil, nil}, {{}, {}, nil}, // empty rows
		{{{}}}, {{{Neg: true}}}, {zeros()}, // rows of zeros
		{zeros(), nil, zeros()[2:]}, {nil, zeros(), {}}, {zeros()[:1], zeros()[:2], zeros()[:1]},
	}
}

// integerForms are ways to write one integer.
func integerForms(x *big.Int) []api.Int {
	return []api.Int{integer(x), long(integer(x))}
}

// smallSheets are all grids of degrees up to 1 with coefficients from -1 to 1.
func smallSheets() []sheet {
	var out []sheet
	for n := range int64(81) {
		out = append(out, sheetOf([]int64{n%3 - 1, n/3%3 - 1}, []int64{n/9%3 - 1, n/27 - 1}))
	}
	return out
}

// mixedSheets have several rows, and coefficients of up to some 200 bits.
func mixedSheets() []sheet {
	s := source(2463534242)
	out := []sheet{
		nil, sheetOf([]int64{7}), monomial(-3, 5, 0), monomial(-3, 0, 5), monomial(2, 4, 3),
		sheetOf([]int64{1, 2, 3}), sheetOf([]int64{1}, []int64{2}, []int64{3}), // y only, x only
		sheetOf([]int64{0, 0, 0, 4}, nil, nil, []int64{5}),           // empty rows between, rows of different lengths
		sheetOf(nil, []int64{1, 2}, nil, []int64{0, 0, 0, 0, -6}),    // and ahead
		sheetOf([]int64{1}, []int64{0, 2}, []int64{0, 0, 3}),         // rows that get longer
		sheetOf([]int64{0, 0, 3}, []int64{0, 2}, []int64{1}),         // and shorter
		{{shifted(1, 64), shifted(-1, 128)}, nil, {shifted(3, 150)}}, // several limbs
	}
	for x := range 4 {
		for y := range 4 {
			out = append(out, s.sheet(x, y, 4), s.sheet(x, y, 70), s.sheet(y, x, 200))
		}
	}
	return out
}

func sheets() []sheet {
	return append(smallSheets(), mixedSheets()...)
}

// pairs calls f with each pair of small grids, and with each pair of mixed ones.
func pairs(f func(g, h sheet)) {
	for _, all := range [][]sheet{smallSheets(), mixedSheets()} {
		for _, g := range all {
			for _, h := range all {
				f(g, h)
			}
		}
	}
}

// points are numbers for x and y: small ones, and ones of more than a limb.
func points() []*big.Int {
	out := []*big.Int{new(big.Int).SetUint64(full), shifted(-3, 64), shifted(1, 150)}
	for n := range int64(7) {
		out = append(out, whole(n-3))
	}
	return out
}

func wantNormal(t *testing.T, what string, got api.Int) {
	t.Helper()
	if n := len(got.Mag); n > 0 && got.Mag[n-1] == 0 {
		t.Fatalf("%s: leading zero limb in %x", what, got.Mag)
	}
	if len(got.Mag) == 0 && got.Neg {
		t.Fatalf("%s: Neg is set for 0", what)
	}
}

func wantInteger(t *testing.T, what string, got api.Int, want *big.Int) {
	t.Helper()
	wantNormal(t, what, got)
	if value(got).Cmp(want) != 0 {
		t.Fatalf("%s: %d, want %d", what, value(got), want)
	}
}

// wantList is for polynomials: zeros at the end of got are found by the comparison.
func wantList(t *testing.T, what string, got api.Poly, want []*big.Int) {
	t.Helper()
	wantRows(t, what, api.Grid{got}, sheet{cutList(want)})
}

func wantGrid(t *testing.T, what string, got api.Grid, want sheet) {
	t.Helper()
	wantRows(t, what, got, cut(want))
}

func wantRows(t *testing.T, what string, got api.Grid, want sheet) {
	t.Helper()
	read := make(sheet, len(got))
	for i, row := range got {
		for _, x := range row {
			wantNormal(t, what, x)
			read[i] = append(read[i], value(x))
		}
	}
	if !equal(read, want) {
		t.Fatalf("%s: %d, want %d", what, read, want)
	}
}
