package elem

import (
	"go/parser"
	"go/token"
	"path/filepath"
	"slices"
	"strings"
	"testing"

	"hairline/api"
	"hairline/ball"
)

// results are the ends of the balls of all functions at x, without copying.
func results(x api.Dyad) []api.Int {
	var out []api.Int
	for f := -1; f <= 6; f++ {
		for _, q := range []int{-1, 0, 8, 24, 88, 801} {
			b, _, _ := At(f, x, q)
			out = append(out, b.Lo, b.Hi)
		}
	}
	return out
}

func clone(a api.Int) api.Int {
	return api.Int{Neg: a.Neg, Mag: slices.Clone(a.Mag)}
}

func alike(a, b api.Int) bool {
	return a.Neg == b.Neg && slices.Equal(a.Mag, b.Mag)
}

// scribble overwrites the limbs up to their capacity, as their owner may.
func scribble(a api.Int) {
	limbs := a.Mag[:cap(a.Mag)]
	for i := range limbs {
		limbs[i] = 0x5555
	}
}

// ruleArguments are right for some functions and wrong for others.
func ruleArguments() []api.Dyad {
	var out []api.Dyad
	for _, mag := range [][]uint64{nil, {0}, {1}, {3, 0, 0}, {8}, {full, 0}, {0, 1}, {7, 1}, {full, full, full}, {1, 2, 3, 0}, append(make([]uint64, 20), 5)} {
		for _, e := range []int{-4001, -1300, -1201, -1200, -1100, -200, -100, -64, -1, 0, 1, 8, 1090, 3999, 4000, 4001} {
			for _, neg := range []bool{false, true} {
				out = append(out, api.Dyad{M: api.Int{Neg: neg, Mag: slices.Clone(mag)}, E: e})
			}
		}
	}
	return out
}

func TestR1ArgumentsStay(t *testing.T) {
	for _, x := range ruleArguments() {
		old := clone(x.M)
		for _, y := range results(x) {
			scribble(y)
		}
		if !alike(x.M, old) {
			t.Fatalf("the argument %v has become %v", old, x.M)
		}
	}
}

func TestR1ResultsStay(t *testing.T) {
	for _, x := range ruleArguments() {
		before := api.Dyad{M: clone(x.M), E: x.E}
		got := results(x)
		old := make([]api.Int, len(got))
		for i := range got {
			old[i] = clone(got[i])
		}
		scribble(x.M)
		if !slices.EqualFunc(got, old, alike) {
			t.Fatalf("results for %v change with the argument", before)
		}
		for i := range got {
			scribble(got[i])
			if !slices.EqualFunc(got[i+1:], old[i+1:], alike) {
				t.Fatalf("results for %v share memory", before)
			}
		}
		if !slices.EqualFunc(results(before), old, alike) {
			t.Fatalf("results for %v change once they have been overwritten", before)
		}
	}
}

func TestR2AnyArgument(t *testing.T) {
	dyads := append(ruleArguments(), zeros()...)
	for _, e := range []int{least, -8000, -4000, 4000, 8000, greatest} {
		dyads = append(dyads, small(-12, e).argument(), ones(0, 9000).argument(), dyadic{power(12000), e}.argument())
	}
	for _, x := range dyads {
		for _, f := range append(wrongF(), 0, 1, 2, 3, 4, 5) {
			for _, q := range append(wrongQ(), 0, 9) {
				b, k, code := At(f, x, q)
				if !ball.Right(b) || code != api.OK && (code != api.ErrArg || k != 0 || b.Q != 0) || code == api.OK && b.Q != q {
					t.Fatalf("function %d of %v at %d: %v, %d, error %d", f, x, q, b, k, code)
				}
			}
		}
	}
}

func TestR4EqualCalls(t *testing.T) {
	for _, x := range ruleArguments() {
		first := results(x)
		roomy := api.Dyad{M: api.Int{Neg: x.M.Neg, Mag: append(make([]uint64, 0, 50), x.M.Mag...)}, E: x.E}
		results(small(5, -1).argument())
		if !slices.EqualFunc(first, results(roomy), alike) {
			t.Fatalf("equal calls with %v differ", x)
		}
	}
}

func TestR6ElemUsesLayersBelow(t *testing.T) {
	files, err := filepath.Glob("*.go")
	if err != nil || len(files) == 0 {
		t.Fatal("no files", err)
	}
	below := []string{"hairline/api", "hairline/dyad", "hairline/ball", "hairline/rows", "hairline/consts"}
	for _, name := range files {
		if strings.HasSuffix(name, "_test.go") {
			continue
		}
		file, err := parser.ParseFile(token.NewFileSet(), name, nil, parser.ImportsOnly)
		if err != nil {
			t.Fatal(err)
		}
		for _, used := range file.Imports {
			if path := strings.Trim(used.Path.Value, `"`); !slices.Contains(below, path) {
				t.Errorf("%s imports %s", name, path)
			}
		}
	}
}
