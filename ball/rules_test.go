package ball

import (
	"go/parser"
	"go/token"
	"path/filepath"
	"slices"
	"strings"
	"testing"

	"hairline/api"
)

// results are balls that the package's functions make of a and b.
func results(a, b api.Ball) []api.Ball {
	var out []api.Ball
	keep := func(got api.Ball, code api.Errno) {
		out = append(out, got)
	}
	for _, o := range operations() {
		keep(o.call(a, b))
		keep(o.call(b, a))
		keep(o.call(a, a))
	}
	for _, k := range []api.Int{b.Lo, b.Hi, whole(0), whole(1), whole(-1)} {
		keep(Times(a, k))
	}
	for _, n := range []int{-4001, -4000, -64, -1, 0, 1, 64, 4000} {
		keep(Shift(a, n))
		keep(Point(api.Dyad{M: a.Lo, E: n}, b.Q))
		keep(Recast(a, n))
	}
	keep(Recast(a, a.Q))
	return out
}

func cloneInteger(a api.Int) api.Int {
	return api.Int{Neg: a.Neg, Mag: slices.Clone(a.Mag)}
}

func clone(b api.Ball) api.Ball {
	return api.Ball{Lo: cloneInteger(b.Lo), Hi: cloneInteger(b.Hi), Q: b.Q}
}

func equalInteger(a, b api.Int) bool {
	return a.Neg == b.Neg && slices.Equal(a.Mag, b.Mag)
}

func equal(a, b api.Ball) bool {
	return a.Q == b.Q && equalInteger(a.Lo, b.Lo) && equalInteger(a.Hi, b.Hi)
}

// scribble overwrites the limbs up to their capacity, as their owner may.
func scribble(a api.Int) {
	limbs := a.Mag[:cap(a.Mag)]
	for i := range limbs {
		limbs[i] = 0x5555
	}
}

// integers are the ends of all balls of a list, without copying.
func integers(l []api.Ball) []api.Int {
	var out []api.Int
	for _, b := range l {
		out = append(out, b.Lo, b.Hi)
	}
	return out
}

func rulePairs(f func(a, b api.Ball)) {
	balls := []api.Ball{{}, small(0, 0, 3), small(1, 1, 3), small(-6, -6, 3), small(-1, 8, 3), small(2, 7, 64), small(3, 1, 3), small(1, 2, -1), small(-5, -2, 2048)}
	s := source(17)
	for range 4 {
		balls = append(balls, s.ball(3), s.ball(2048))
	}
	for _, a := range balls {
		for _, b := range balls {
			for i, form := range forms(a) {
				f(clone(form), clone(forms(b)[i]))
			}
		}
	}
}

func TestR1ArgumentsStay(t *testing.T) {
	rulePairs(func(a, b api.Ball) {
		oldA, oldB := clone(a), clone(b)
		Right(a)
		Has(a, api.Dyad{M: b.Lo, E: -1})
		Inside(a, b)
		Meets(a, b)
		for _, x := range integers(results(a, b)) {
			scribble(x)
		}
		if !equal(a, oldA) || !equal(b, oldB) {
			t.Fatalf("arguments %v, %v have become %v, %v", oldA, oldB, a, b)
		}
	})
}

func TestR1ResultsStay(t *testing.T) {
	rulePairs(func(a, b api.Ball) {
		oldA, oldB := clone(a), clone(b)
		got := results(a, b)
		old := make([]api.Ball, len(got))
		for i := range got {
			old[i] = clone(got[i])
		}
		for _, x := range integers([]api.Ball{a, b}) {
			scribble(x)
		}
		if !slices.EqualFunc(got, old, equal) {
			t.Fatalf("results for %v, %v change with the arguments", oldA, oldB)
		}
		now, before := integers(got), integers(old)
		for i := range now {
			scribble(now[i])
			if !slices.EqualFunc(now[i+1:], before[i+1:], equalInteger) {
				t.Fatalf("results for %v, %v share memory", oldA, oldB)
			}
		}
	})
}

func TestR4EqualCalls(t *testing.T) {
	rulePairs(func(a, b api.Ball) {
		roomy := clone(a)
		roomy.Lo.Mag = append(make([]uint64, 0, 50), a.Lo.Mag...)
		roomy.Hi.Mag = append(make([]uint64, 0, 50), a.Hi.Mag...)
		if !slices.EqualFunc(results(a, b), results(roomy, b), equal) {
			t.Fatalf("equal calls with %v, %v differ", a, b)
		}
	})
}

// What is made of a valid ball is a valid ball.
func TestResultsAreValid(t *testing.T) {
	rulePairs(func(a, b api.Ball) {
		for _, got := range results(a, b) {
			if !Right(got) {
				t.Fatalf("%v, made of %v and %v, is not valid", got, a, b)
			}
		}
	})
}

func TestR6BallUsesLayersBelow(t *testing.T) {
	files, err := filepath.Glob("*.go")
	if err != nil || len(files) == 0 {
		t.Fatal("no files", err)
	}
	for _, name := range files {
		if strings.HasSuffix(name, "_test.go") {
			continue
		}
		file, err := parser.ParseFile(token.NewFileSet(), name, nil, parser.ImportsOnly)
		if err != nil {
			t.Fatal(err)
		}
		for _, used := range file.Imports {
			path := strings.Trim(used.Path.Value, `"`)
			if path != "hairline/api" && path != "hairline/dyad" && path != "hairline/zed" {
				t.Errorf("%s imports %s", name, path)
			}
		}
	}
}
