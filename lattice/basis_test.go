package lattice

import (
	"math/big"
	"slices"
	"testing"

	"hairline/zed"
)

// wantTrueShares tests that the shares of a basis are what they are said to be.
func wantTrueShares(t *testing.T, b *basis) {
	t.Helper()
	rows := read(b.rows)
	m, norms := orthogonal(rows)
	volume := fraction(1, 1)
	for j := range rows {
		volume = multiplied(volume, norms[j])
		if x := value(b.volume(j + 1)); x.Cmp(integral(volume)) != 0 {
			t.Fatalf("volume of %d rows of %d: %d", j+1, rows, x)
		}
		for i := j + 1; i < len(rows); i++ {
			if x := value(b.shares[i][j]); x.Cmp(integral(multiplied(m[i][j], volume))) != 0 {
				t.Fatalf("share %d, %d of %d: %d", i, j, rows, x)
			}
		}
	}
}

// The steps of Reduce come in an order here in which it never takes them.
func TestSharesStayTrue(t *testing.T) {
	s := source(521288629)
	for _, a := range slices.Concat(mixedTables(), halves()) {
		if len(a) < 2 || !independent(a) {
			continue
		}
		var b basis
		for i, row := range made(a) {
			b.add(row, unit(i, len(a)))
		}
		wantTrueShares(t, &b)
		for range 6 {
			k := 1 + s.below(len(a)-1)
			if s.below(3) == 0 {
				b.shorten(k)
				if !b.short(k) {
					t.Fatalf("row %d of %d is not short", k, read(b.rows))
				}
			}
			after := value(b.exchangedVolume(k))
			b.exchange(k)
			wantTrueShares(t, &b)
			if after.Cmp(value(b.volume(k))) != 0 {
				t.Fatalf("exchangedVolume of row %d: %d", k, after)
			}
			wantTable(t, "factors times the original rows", b.rows, product(read(b.factors), a))
		}
	}
}

// No volume of the first rows becomes greater on the way, so that Reduce ends.
func TestExchangesLessen(t *testing.T) {
	for _, a := range mixedTables() {
		if !independent(a) {
			continue
		}
		var b basis
		for i, row := range made(a) {
			b.add(row, unit(i, len(a)))
		}
		for k := 1; k < len(a); {
			b.shorten(k)
			if b.ordered(k) {
				k++
				continue
			}
			before := volumes(&b)
			b.exchange(k)
			for i, x := range volumes(&b) {
				if (i == k) != (x.Cmp(before[i]) < 0) || i != k && x.Cmp(before[i]) != 0 {
					t.Fatalf("volume of %d rows after an exchange of row %d: %d, was %d", i, k, x, before[i])
				}
			}
			k = max(k-1, 1)
		}
	}
}

func volumes(b *basis) []*big.Int {
	var out []*big.Int
	for n := range len(b.rows) + 1 {
		out = append(out, value(b.volume(n)))
	}
	return out
}

func TestAddTellsDependence(t *testing.T) {
	for _, a := range tables() {
		var b basis
		free := 0
		for _, row := range made(a) {
			if !b.add(row, nil) {
				break
			}
			free++
		}
		want := 0
		for want < len(a) && independent(a[:want+1]) {
			want++
		}
		if free != want {
			t.Fatalf("%d rows of %d are independent, want %d", free, a, want)
		}
		if free < len(a) && zed.Sign(b.volume(free+1)) != 0 {
			t.Fatalf("volume of dependent rows %d: %d", a, value(b.volume(free+1)))
		}
	}
}
