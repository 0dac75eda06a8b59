package roots

import (
	"go/parser"
	"go/token"
	"math/big"
	"path/filepath"
	"slices"
	"strings"
	"testing"

	"hairline/api"
)

// results are all lists that the package's functions make of p and two integers. A
// bound stands as a list of one integer.
func results(p api.Poly, a, b api.Int) [][]api.Int {
	bound, _ := Bound(p)
	floors, _ := Floors(p, a, b)
	wide, _ := Floors(p, integer(shifted(-1, 300)), integer(shifted(1, 300)))
	in, _ := In(p, a, b)
	all, _ := All(p)
	low, _ := Floors(p, a, a)
	high, _ := In(p, b, b)
	return [][]api.Int{{bound}, floors, wide, in, all, low, high}
}

// numbers are Sign, Count and all error numbers.
func numbers(p api.Poly, a, b api.Int) []int {
	count, first := Count(p, a, b)
	_, second := Bound(p)
	_, third := Floors(p, a, b)
	_, fourth := In(p, a, b)
	_, fifth := All(p)
	return []int{Sign(p, a), Sign(p, b), count, int(first), int(second), int(third), int(fourth), int(fifth)}
}

func cloneInteger(a api.Int) api.Int {
	return api.Int{Neg: a.Neg, Mag: slices.Clone(a.Mag)}
}

func clone(l []api.Int) []api.Int {
	var out []api.Int
	for _, x := range l {
		out = append(out, cloneInteger(x))
	}
	return out
}

func cloneAll(l [][]api.Int) [][]api.Int {
	var out [][]api.Int
	for _, x := range l {
		out = append(out, clone(x))
	}
	return out
}

func alikeInteger(a, b api.Int) bool {
	return a.Neg == b.Neg && slices.Equal(a.Mag, b.Mag)
}

func alike(a, b []api.Int) bool {
	return slices.EqualFunc(a, b, alikeInteger)
}

func allAlike(a, b [][]api.Int) bool {
	return slices.EqualFunc(a, b, alike)
}

// scribble overwrites limbs, up to their capacity, as their owner may.
func scribble(a api.Int) {
	limbs := a.Mag[:cap(a.Mag)]
	for i := range limbs {
		limbs[i] = 0x5555
	}
}

// scribbleAll overwrites all integers, and then the list, up to its capacity.
func scribbleAll(l []api.Int) {
	l = l[:cap(l)]
	for i := range l {
		scribble(l[i])
		l[i] = api.Int{Neg: true, Mag: []uint64{3, 0}}
	}
}

// ruleCases calls f with copies of its own each time. Some bounds are roots, and some
// are the same integer.
func ruleCases(f func(p api.Poly, a, b api.Int)) {
	far := shifted(1, 200)
	s := source(88172645463325252)
	all := []list{
		nil, listOf(-6), listOf(0, 1), listOf(-2, 0, 1), listOf(0, -1, 0, 1), listOf(3, 2), listOf(1, 0, 1), raised(listOf(-3, 1), 4),
		{negated(far), whole(1)}, times(at(far, 2), at(negated(far), 1), surds(far, whole(2), 1)).p, s.list(4, 80), s.list(7, 20),
	}
	bounds := list{whole(0), whole(1), whole(-3), whole(3), far, negated(far), plus(far, -2)}
	for n, p := range all {
		for _, form := range forms(p) {
			for i, a := range bounds {
				for k, b := range bounds {
					f(clone(form), cloneInteger(integerForms(a)[(n+k)%2]), cloneInteger(integerForms(b)[i%2]))
				}
			}
		}
	}
}

func TestR1ArgumentsStay(t *testing.T) {
	ruleCases(func(p api.Poly, a, b api.Int) {
		oldP, oldA, oldB := clone(p), cloneInteger(a), cloneInteger(b)
		numbers(p, a, b)
		for _, got := range results(p, a, b) {
			scribbleAll(got)
		}
		if !alike(p, oldP) || !alikeInteger(a, oldA) || !alikeInteger(b, oldB) {
			t.Fatalf("arguments %v, %v, %v have become %v, %v, %v", oldP, oldA, oldB, p, a, b)
		}
	})
}

func TestR1ResultsStay(t *testing.T) {
	ruleCases(func(p api.Poly, a, b api.Int) {
		oldP := clone(p)
		got := results(p, a, b)
		old := cloneAll(got)
		scribbleAll(p)
		scribble(a)
		scribble(b)
		if !allAlike(got, old) {
			t.Fatalf("results for %v change with the arguments", oldP)
		}
		for i := range got {
			scribbleAll(got[i])
			if !allAlike(got[i+1:], old[i+1:]) {
				t.Fatalf("results for %v share memory", oldP)
			}
		}
	})
}

// The integers of one result do not share their limbs.
func TestR1IntegersStay(t *testing.T) {
	ruleCases(func(p api.Poly, a, b api.Int) {
		for _, got := range results(p, a, b) {
			old := clone(got)
			for i := range got {
				scribble(got[i])
				if !alike(got[i+1:], old[i+1:]) {
					t.Fatalf("integers of %v, made of %v, share memory", old, p)
				}
			}
		}
	})
}

func TestR2OneIntegerTwice(t *testing.T) {
	for _, k := range families() {
		for _, x := range k.places() {
			a := integerForms(x)[1]
			if got, code := Count(forms(k.p)[3], a, a); got != 0 || code != api.OK {
				t.Fatalf("Count of %s from %d to the same: %d, error %d", text(k.p), x, got, code)
			}
			got, code := Floors(forms(k.p)[3], a, a)
			wantList(t, "Floors from a number to the same", got, code, k.floors(x, x, false))
			got, code = In(forms(k.p)[3], a, a)
			wantList(t, "In from a number to the same", got, code, k.floors(x, x, true))
		}
	}
}

// Zeros at the end of a long list cost nothing.
func TestR2LongListsOfZeros(t *testing.T) {
	p := append(of(-2, 0, 2), make(api.Poly, 999_000)...)
	zero, two := of(0, 2)[0], of(2)[0]
	if Sign(p, zero) != -1 || Sign(p, two) != 1 || Sign(p, of(-1)[0]) != 0 {
		t.Error("Sign is wrong")
	}
	bound, _ := Bound(p)
	wantInteger(t, "Bound", bound, whole(3))
	if count, code := Count(p, zero, two); count != 1 || code != api.OK {
		t.Errorf("Count: %d, error %d", count, code)
	}
	got, code := Floors(p, zero, two)
	wantList(t, "Floors", got, code, listOf(1))
	got, code = All(p)
	wantList(t, "All", got, code, listOf(-1, 1))
}

// Any value of the types is an argument: nothing panics.
func TestR2AnyArguments(t *testing.T) {
	integers := append(zeros(), api.Int{Mag: []uint64{}}, api.Int{Neg: true, Mag: []uint64{1, 0}}, api.Int{Mag: []uint64{0, 1, 0}}, api.Int{Neg: true, Mag: []uint64{full, full}})
	for _, c := range integers {
		for _, d := range integers {
			for _, e := range integers {
				p := api.Poly{c, d, e}
				for _, x := range integers {
					results(p, x, d)
					if want := valueAt(list{value(c), value(d), value(e)}, value(x)).Sign(); Sign(p, x) != want {
						t.Fatalf("Sign of %v at %v is not %d", p, x, want)
					}
					numbers(p, e, x)
				}
			}
		}
	}
}

func TestR4EqualCalls(t *testing.T) {
	ruleCases(func(p api.Poly, a, b api.Int) {
		roomy := append(make(api.Poly, 0, 50), p...)
		for i := range roomy {
			roomy[i].Mag = append(make([]uint64, 0, 50), p[i].Mag...)
		}
		if !allAlike(results(p, a, b), results(roomy, a, b)) || !slices.Equal(numbers(p, a, b), numbers(roomy, a, b)) {
			t.Fatalf("equal calls with %v differ", p)
		}
	})
}

// One polynomial in all its forms, and all its multiples, have the same roots.
func TestR4EqualPolynomials(t *testing.T) {
	lo, hi := integer(shifted(-1, 400)), integer(shifted(1, 400))
	for _, k := range families() {
		want, _ := Floors(made(k.p), lo, hi)
		for _, c := range []*big.Int{whole(-1), whole(6), shifted(-5, 100)} {
			for _, form := range forms(product(k.p, list{c})) {
				if got, _ := Floors(form, lo, hi); !alike(got, want) {
					t.Fatalf("Floors of %s: %v, want %v", text(k.p), got, want)
				}
			}
		}
	}
}

func TestR6RootsUsesZedAndPolyzAlone(t *testing.T) {
	files, err := filepath.Glob("*.go")
	if err != nil || len(files) == 0 {
		t.Fatal("no files", err)
	}
	allowed := []string{`"hairline/api"`, `"hairline/polyz"`, `"hairline/zed"`, `"slices"`}
	for _, name := range files {
		if strings.HasSuffix(name, "_test.go") {
			continue
		}
		file, err := parser.ParseFile(token.NewFileSet(), name, nil, parser.ImportsOnly)
		if err != nil {
			t.Fatal(err)
		}
		for _, used := range file.Imports {
			if !slices.Contains(allowed, used.Path.Value) {
				t.Errorf("%s imports %s", name, used.Path.Value)
			}
		}
	}
}
