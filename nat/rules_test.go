package nat

import (
	"go/parser"
	"go/token"
	"path/filepath"
	"slices"
	"strings"
	"testing"
)

// results are all lists that the package's functions make of a and b.
func results(a, b []uint64) [][]uint64 {
	d, _ := Sub(a, b)
	e, _ := Sub(b, a)
	q, r, _ := DivMod(a, b)
	p, _ := Parse(Hex(a))
	return [][]uint64{
		Norm(a), Add(a, b), d, e, Mul(a, b), q, r, Gcd(a, b), p,
		Shl(a, 0), Shl(a, -5), Shl(a, 64), Shl(a, 7), Shr(a, 0), Shr(a, -5), Shr(a, 64), Shr(a, 7),
	}
}

func copyAll(lists [][]uint64) [][]uint64 {
	out := make([][]uint64, len(lists))
	for i, x := range lists {
		out[i] = slices.Clone(x)
	}
	return out
}

func sameAll(x, y [][]uint64) bool {
	return slices.EqualFunc(x, y, slices.Equal)
}

// scribble overwrites a list up to its capacity, as its owner may.
func scribble(a []uint64) {
	for i := range a[:cap(a)] {
		a[:cap(a)][i] = 0x5555
	}
}

func rulePairs(f func(a, b []uint64)) {
	for _, a := range [][]uint64{nil, {0}, {6}, {6, 0, 0}, {0, 1}, {full, full, full}, {1, 2, 3, 4, 0}} {
		for _, b := range [][]uint64{nil, {0, 0}, {1}, {4, 0}, {full, 1}, {1, 2, 3, 4}} {
			f(slices.Clone(a), slices.Clone(b))
		}
	}
}

func TestR1ArgumentsStay(t *testing.T) {
	rulePairs(func(a, b []uint64) {
		oldA, oldB := slices.Clone(a), slices.Clone(b)
		Cmp(a, b)
		BitLen(a)
		Bit(a, 3)
		for _, x := range results(a, b) {
			scribble(x)
		}
		if !slices.Equal(a, oldA) || !slices.Equal(b, oldB) {
			t.Errorf("arguments %x, %x have become %x, %x", oldA, oldB, a, b)
		}
	})
}

func TestR1ResultsStay(t *testing.T) {
	rulePairs(func(a, b []uint64) {
		oldA, oldB := slices.Clone(a), slices.Clone(b)
		got := results(a, b)
		old := copyAll(got)
		scribble(a)
		scribble(b)
		if !sameAll(got, old) {
			t.Errorf("results for %x, %x change with the arguments", oldA, oldB)
		}
		for i := range got {
			scribble(got[i])
			if !sameAll(got[i+1:], old[i+1:]) {
				t.Errorf("results for %x, %x share memory", oldA, oldB)
			}
		}
	})
}

func TestR2OneListTwice(t *testing.T) {
	a := []uint64{3, full, 1, 0}
	wantLimbs(t, "a + a", Add(a, a), 6, full-1, 3)
	d, ok := Sub(a, a)
	if !ok || len(d) != 0 {
		t.Errorf("a - a: %x, %v", d, ok)
	}
	q, r, _ := DivMod(a, a)
	wantLimbs(t, "a by a, quotient", q, 1)
	wantLimbs(t, "a by a, remainder", r)
	wantLimbs(t, "Gcd of a and a", Gcd(a, a), 3, full, 1)
	wantDivMod(t, Mul(a, a), a)
}

func TestR4EqualCalls(t *testing.T) {
	rulePairs(func(a, b []uint64) {
		roomy := append(make([]uint64, 0, 50), a...)
		if !sameAll(results(a, b), results(roomy, b)) {
			t.Errorf("equal calls with %x, %x differ", a, b)
		}
	})
}

func TestR6NatUsesNothing(t *testing.T) {
	files, err := filepath.Glob("*.go")
	if err != nil || len(files) == 0 {
		t.Fatal("no files", err)
	}
	for _, name := range files {
		if strings.HasSuffix(name, "_test.go") {
			continue
		}
		file, err := parser.ParseFile(token.NewFileSet(), name, nil, parser.ImportsOnly)
		if err != nil {
			t.Fatal(err)
		}
		if len(file.Imports) != 0 {
			t.Errorf("%s imports %s", name, file.Imports[0].Path.Value)
		}
	}
}
