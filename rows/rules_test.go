package rows

import (
	"go/parser"
	"go/token"
	"path/filepath"
	"slices"
	"strings"
	"testing"

	"hairline/api"
)

// results are all integers that the package's functions make of x.
func results(x api.Int) []api.Int {
	var out []api.Int
	for _, f := range functions() {
		for _, q := range []int{-1, 0, 3, 64, 65, 200} {
			for _, n := range []int{0, 1, 2, 9} {
				lo, hi, _ := f.call(x, q, n)
				out = append(out, lo, hi)
			}
		}
	}
	return out
}

func clone(a api.Int) api.Int {
	return api.Int{Neg: a.Neg, Mag: slices.Clone(a.Mag)}
}

func alike(a, b api.Int) bool {
	return a.Neg == b.Neg && slices.Equal(a.Mag, b.Mag)
}

// scribble overwrites the limbs up to their capacity, as their owner may.
func scribble(a api.Int) {
	limbs := a.Mag[:cap(a.Mag)]
	for i := range limbs {
		limbs[i] = 0x5555
	}
}

// ruleArguments are right for some q and wrong for others.
func ruleArguments() []api.Int {
	mags := [][]uint64{nil, {0}, {1}, {1, 0, 0}, {4}, {9}, {1 << 63}, {full, 0}, {0, 1}, {7, 1}, {full, full, full}, {1, 2, 3, 0}}
	var out []api.Int
	for _, mag := range mags {
		out = append(out, clone(api.Int{Mag: mag}), clone(api.Int{Neg: true, Mag: mag}))
	}
	return out
}

func TestR1ArgumentsStay(t *testing.T) {
	for _, x := range ruleArguments() {
		old := clone(x)
		for _, y := range results(x) {
			scribble(y)
		}
		if !alike(x, old) {
			t.Errorf("the argument %v has become %v", old, x)
		}
	}
}

func TestR1ResultsStay(t *testing.T) {
	for _, x := range ruleArguments() {
		before := clone(x)
		got := results(x)
		old := make([]api.Int, len(got))
		for i := range got {
			old[i] = clone(got[i])
		}
		scribble(x)
		if !slices.EqualFunc(got, old, alike) {
			t.Errorf("results for %v change with the argument", before)
		}
		for i := range got {
			scribble(got[i])
			if !slices.EqualFunc(got[i+1:], old[i+1:], alike) {
				t.Fatalf("results for %v share memory", before)
			}
		}
		if !slices.EqualFunc(results(before), old, alike) {
			t.Errorf("results for %v change once they have been overwritten", before)
		}
	}
}

func TestR4EqualCalls(t *testing.T) {
	for _, x := range ruleArguments() {
		roomy := api.Int{Neg: x.Neg, Mag: append(make([]uint64, 0, 50), x.Mag...)}
		if !slices.EqualFunc(results(x), results(roomy), alike) {
			t.Errorf("equal calls with %v differ", x)
		}
	}
}

func TestR6RowsUsesZedAlone(t *testing.T) {
	files, err := filepath.Glob("*.go")
	if err != nil || len(files) == 0 {
		t.Fatal("no files", err)
	}
	for _, name := range files {
		if strings.HasSuffix(name, "_test.go") {
			continue
		}
		file, err := parser.ParseFile(token.NewFileSet(), name, nil, parser.ImportsOnly)
		if err != nil {
			t.Fatal(err)
		}
		for _, used := range file.Imports {
			if path := used.Path.Value; path != `"hairline/api"` && path != `"hairline/zed"` {
				t.Errorf("%s imports %s", name, path)
			}
		}
	}
}
