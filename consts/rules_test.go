package consts

import (
	"go/parser"
	"go/token"
	"path/filepath"
	"slices"
	"strings"
	"testing"

	"hairline/api"
	"hairline/ball"
)

// results are the ends of balls for several q, without copying.
func results() []api.Int {
	var out []api.Int
	for _, f := range functions() {
		for _, q := range []int{-1, 0, 1, 8, 47, 48, 49, 64, 300, 900, 901} {
			b, _ := f.call(q)
			out = append(out, b.Lo, b.Hi)
		}
	}
	return out
}

func clones(all []api.Int) []api.Int {
	out := make([]api.Int, len(all))
	for i, a := range all {
		out[i] = api.Int{Neg: a.Neg, Mag: slices.Clone(a.Mag)}
	}
	return out
}

func alike(a, b api.Int) bool {
	return a.Neg == b.Neg && slices.Equal(a.Mag, b.Mag)
}

// scribble overwrites the limbs up to their capacity, as their owner may.
func scribble(a api.Int) {
	limbs := a.Mag[:cap(a.Mag)]
	for i := range limbs {
		limbs[i] = 0x5555
	}
}

func TestR1ResultsBelongToTheCaller(t *testing.T) {
	got := results()
	old := clones(got)
	for i := range got {
		scribble(got[i])
		if !slices.EqualFunc(got[i+1:], old[i+1:], alike) {
			t.Fatalf("result %d shares memory with a later one", i)
		}
	}
	if !slices.EqualFunc(results(), old, alike) {
		t.Error("results change once they have been overwritten")
	}
}

func TestR2AnyArgument(t *testing.T) {
	for _, f := range functions() {
		for _, q := range append(wrongQ(), 0, 1, 450, 900) {
			b, code := f.call(q)
			if right := q >= 0 && q <= 900; (code == api.OK) != right || !ball.Right(b) {
				t.Errorf("%s of %d: %v, error %d", f.name, q, b, code)
			}
		}
	}
}

// A call hangs neither on the calls before it nor on those of the other
// function.
func TestR4EqualCalls(t *testing.T) {
	for _, f := range functions() {
		for _, q := range []int{0, 1, 8, 300, 900} {
			first := f.at(t, q)
			for _, g := range functions() {
				for _, other := range []int{900, -1, 0, 901, q} {
					g.call(other)
				}
			}
			again := f.at(t, q)
			if first.Q != again.Q || !alike(first.Lo, again.Lo) || !alike(first.Hi, again.Hi) {
				t.Errorf("equal calls of %s with %d: %v, %v", f.name, q, first, again)
			}
		}
	}
}

func TestR6ConstsUsesBallAndRows(t *testing.T) {
	files, err := filepath.Glob("*.go")
	if err != nil || len(files) == 0 {
		t.Fatal("no files", err)
	}
	for _, name := range files {
		if strings.HasSuffix(name, "_test.go") {
			continue
		}
		file, err := parser.ParseFile(token.NewFileSet(), name, nil, parser.ImportsOnly)
		if err != nil {
			t.Fatal(err)
		}
		for _, used := range file.Imports {
			path := strings.Trim(used.Path.Value, `"`)
			if path != "hairline/api" && path != "hairline/ball" && path != "hairline/rows" {
				t.Errorf("%s imports %s", name, path)
			}
		}
	}
}
