package zed

import (
	"go/parser"
	"go/token"
	"path/filepath"
	"slices"
	"strings"
	"testing"

	"hairline/api"
)

// results are all integers that the package's functions make of a and b.
func results(a, b api.Int) []api.Int {
	q, r, _ := DivMod(a, b)
	n, _ := Round(a, b)
	u, _ := Up(a, b)
	p, _ := Parse(Text(a))
	return []api.Int{
		Norm(a), Add(a, b), Sub(a, b), Sub(b, a), Mul(a, b), Neg(a), Abs(a), q, r, n, u, Gcd(a, b), p, Of(5), Of(5),
		Shl(a, 0), Shl(a, -5), Shl(a, 64), Shl(a, 7), Shr(a, 0), Shr(a, -5), Shr(a, 64), Shr(a, 7),
	}
}

func clone(a api.Int) api.Int {
	return api.Int{Neg: a.Neg, Mag: slices.Clone(a.Mag)}
}

func cloneAll(l []api.Int) []api.Int {
	out := make([]api.Int, len(l))
	for i, a := range l {
		out[i] = clone(a)
	}
	return out
}

func alike(a, b api.Int) bool {
	return a.Neg == b.Neg && slices.Equal(a.Mag, b.Mag)
}

func allAlike(x, y []api.Int) bool {
	return slices.EqualFunc(x, y, alike)
}

// scribble overwrites the limbs up to their capacity, as their owner may.
func scribble(a api.Int) {
	limbs := a.Mag[:cap(a.Mag)]
	for i := range limbs {
		limbs[i] = 0x5555
	}
}

func rulePairs(f func(a, b api.Int)) {
	lists := [][]uint64{nil, {0}, {1}, {6}, {6, 0, 0}, {0, 1}, {full, 1}, {full, full, full}, {1, 2, 3, 4, 0}}
	for _, x := range lists {
		for _, y := range lists {
			for signs := range 4 {
				f(clone(api.Int{Neg: signs%2 == 1, Mag: x}), clone(api.Int{Neg: signs/2 == 1, Mag: y}))
			}
		}
	}
}

func TestR1ArgumentsStay(t *testing.T) {
	rulePairs(func(a, b api.Int) {
		oldA, oldB := clone(a), clone(b)
		Small(a)
		Sign(a)
		Cmp(a, b)
		Same(a, b)
		BitLen(a)
		for _, x := range results(a, b) {
			scribble(x)
		}
		if !alike(a, oldA) || !alike(b, oldB) {
			t.Errorf("arguments %v, %v have become %v, %v", oldA, oldB, a, b)
		}
	})
}

func TestR1ResultsStay(t *testing.T) {
	rulePairs(func(a, b api.Int) {
		oldA, oldB := clone(a), clone(b)
		got := results(a, b)
		old := cloneAll(got)
		scribble(a)
		scribble(b)
		if !allAlike(got, old) {
			t.Errorf("results for %v, %v change with the arguments", oldA, oldB)
		}
		for i := range got {
			scribble(got[i])
			if !allAlike(got[i+1:], old[i+1:]) {
				t.Errorf("results for %v, %v share memory", oldA, oldB)
			}
		}
	})
}

func TestR2OneIntegerTwice(t *testing.T) {
	for _, a := range samples() {
		wantSmall(t, "a - a", Sub(a, a), 0)
		wantValue(t, "a + a", Add(a, a), value(Shl(a, 1)))
		wantValue(t, "Gcd of a and a", Gcd(a, a), value(Abs(a)))
		if Sign(a) == 0 {
			continue
		}
		q, r, _ := DivMod(a, a)
		wantSmall(t, "a by a, quotient", q, 1)
		wantSmall(t, "a by a, remainder", r, 0)
	}
}

func TestR4EqualCalls(t *testing.T) {
	rulePairs(func(a, b api.Int) {
		roomy := api.Int{Neg: a.Neg, Mag: append(make([]uint64, 0, 50), a.Mag...)}
		if !allAlike(results(a, b), results(roomy, b)) || Text(a) != Text(roomy) {
			t.Errorf("equal calls with %v, %v differ", a, b)
		}
	})
}

func TestR6ZedUsesNatAlone(t *testing.T) {
	files, err := filepath.Glob("*.go")
	if err != nil || len(files) == 0 {
		t.Fatal("no files", err)
	}
	for _, name := range files {
		if strings.HasSuffix(name, "_test.go") {
			continue
		}
		file, err := parser.ParseFile(token.NewFileSet(), name, nil, parser.ImportsOnly)
		if err != nil {
			t.Fatal(err)
		}
		for _, used := range file.Imports {
			if path := used.Path.Value; path != `"hairline/api"` && path != `"hairline/nat"` {
				t.Errorf("%s imports %s", name, path)
			}
		}
	}
}
