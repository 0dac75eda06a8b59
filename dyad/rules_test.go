package dyad

import (
	"go/parser"
	"go/token"
	"path/filepath"
	"slices"
	"strings"
	"testing"

	"hairline/api"
)

// results are all dyads that the package's functions make of a and b; an
// integer stands as the M of one.
func results(a, b api.Dyad) []api.Dyad {
	out := []api.Dyad{Norm(a), Of(a.M, b.E), Add(a, b), Sub(a, b), Sub(b, a), Mul(a, b), Neg(a)}
	for _, n := range []int{least, -4000, -64, -a.E, 0, 1, 64, 4000, greatest} {
		out = append(out, Shift(a, n), api.Dyad{M: Floor(a, n)}, api.Dyad{M: Ceil(a, n)})
	}
	return out
}

func clone(d api.Dyad) api.Dyad {
	return api.Dyad{M: api.Int{Neg: d.M.Neg, Mag: slices.Clone(d.M.Mag)}, E: d.E}
}

func cloneAll(l []api.Dyad) []api.Dyad {
	out := make([]api.Dyad, len(l))
	for i, d := range l {
		out[i] = clone(d)
	}
	return out
}

func alike(a, b api.Dyad) bool {
	return a.E == b.E && a.M.Neg == b.M.Neg && slices.Equal(a.M.Mag, b.M.Mag)
}

func allAlike(x, y []api.Dyad) bool {
	return slices.EqualFunc(x, y, alike)
}

// scribble overwrites the limbs up to their capacity, as their owner may.
func scribble(d api.Dyad) {
	limbs := d.M.Mag[:cap(d.M.Mag)]
	for i := range limbs {
		limbs[i] = 0x5555
	}
}

func rulePairs(f func(a, b api.Dyad)) {
	mags := [][]uint64{nil, {0}, {1}, {6, 0, 0}, {0, 1}, {full, 1}, {0, 2, 3, 4, 0}}
	for _, x := range mags {
		for _, y := range mags {
			for _, e := range []int{least, -4001, -4000, -1, 0, 64, 4000, 4001} {
				for signs := range 4 {
					a := api.Dyad{M: api.Int{Neg: signs%2 == 1, Mag: x}, E: e}
					b := api.Dyad{M: api.Int{Neg: signs/2 == 1, Mag: y}, E: 3}
					f(clone(a), clone(b))
					f(clone(b), clone(a))
				}
			}
		}
	}
}

func TestR1ArgumentsStay(t *testing.T) {
	rulePairs(func(a, b api.Dyad) {
		oldA, oldB := clone(a), clone(b)
		Sign(a)
		Cmp(a, b)
		Log(a)
		for _, d := range results(a, b) {
			scribble(d)
		}
		if !alike(a, oldA) || !alike(b, oldB) {
			t.Fatalf("arguments %v, %v have become %v, %v", oldA, oldB, a, b)
		}
	})
}

func TestR1ResultsStay(t *testing.T) {
	rulePairs(func(a, b api.Dyad) {
		oldA, oldB := clone(a), clone(b)
		got := results(a, b)
		old := cloneAll(got)
		scribble(a)
		scribble(b)
		if !allAlike(got, old) {
			t.Fatalf("results for %v, %v change with the arguments", oldA, oldB)
		}
		for i := range got {
			scribble(got[i])
			if !allAlike(got[i+1:], old[i+1:]) {
				t.Fatalf("results for %v, %v share memory", oldA, oldB)
			}
		}
	})
}

func TestR2OneDyadTwice(t *testing.T) {
	for _, d := range samples() {
		wantDyad(t, "d - d", Sub(d, d), 0, 0)
		wantValue(t, "d + d", Add(d, d), shifted(argValue(d), argBias+1))
		if got := Cmp(d, d); got != 0 {
			t.Errorf("Cmp of %v and itself: %d", d, got)
		}
	}
}

func TestR4EqualCalls(t *testing.T) {
	rulePairs(func(a, b api.Dyad) {
		roomy := api.Dyad{M: api.Int{Neg: a.M.Neg, Mag: append(make([]uint64, 0, 50), a.M.Mag...)}, E: a.E}
		if !allAlike(results(a, b), results(roomy, b)) {
			t.Fatalf("equal calls with %v, %v differ", a, b)
		}
	})
}

// Equal numbers have one normal form, however they were written or made.
func TestWordsOneFormForOneNumber(t *testing.T) {
	for _, d := range samples() {
		if d.E < -4000 || d.E > 3990 {
			continue
		}
		long := append([]uint64{0}, d.M.Mag...)
		for _, same := range []api.Dyad{
			Neg(Neg(d)), Sub(d, api.Dyad{E: 9}), Mul(d, small(1, 0)), Shift(d, 0),
			Norm(api.Dyad{M: api.Int{Neg: d.M.Neg, Mag: append(slices.Clone(d.M.Mag), 0)}, E: d.E}),
			Shift(api.Dyad{M: api.Int{Neg: d.M.Neg, Mag: long}, E: d.E}, -64),
		} {
			if Norm(d).E > 4000 {
				continue
			}
			if !alike(same, Norm(d)) {
				t.Fatalf("%v has the forms %v and %v", d, Norm(d), same)
			}
		}
	}
}

func TestR6DyadUsesZedAlone(t *testing.T) {
	files, err := filepath.Glob("*.go")
	if err != nil || len(files) == 0 {
		t.Fatal("no files", err)
	}
	for _, name := range files {
		if strings.HasSuffix(name, "_test.go") {
			continue
		}
		file, err := parser.ParseFile(token.NewFileSet(), name, nil, parser.ImportsOnly)
		if err != nil {
			t.Fatal(err)
		}
		for _, used := range file.Imports {
			path := strings.Trim(used.Path.Value, `"`)
			if path != "hairline/api" && path != "hairline/zed" && path != "math/bits" {
				t.Errorf("%s imports %s", name, path)
			}
		}
	}
}
