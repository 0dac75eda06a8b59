package polyz

import (
	"go/parser"
	"go/token"
	"path/filepath"
	"slices"
	"strings"
	"testing"

	"hairline/api"
)

// results are all polynomials that the package's functions make of p, q and c. An
// integer stands as a polynomial of one coefficient.
func results(p, q api.Poly, c api.Int) []api.Poly {
	t, _ := Divide(p, q)
	exact, _ := Divide(Mul(p, q), q)
	factor, rest, _ := Rest(p, q)
	back, over, _ := Rest(q, p)
	return []api.Poly{
		Norm(p), Add(p, q), Add(q, p), Sub(p, q), Mul(p, q), Times(p, c), Times(p, integer(whole(1))),
		{Value(p, c)}, {Value(p, integer(whole(0)))}, Shift(p, c), Shift(p, integer(whole(0))), Stretch(p, c), Stretch(p, integer(whole(1))), Derive(p),
		t, exact, factor, rest, back, over,
		{Content(p)}, Primitive(p), Gcd(p, q), Gcd(q, p), Gcd(p, nil), Gcd(nil, p), Gcd(p, p), Simple(p), Simple(q),
	}
}

func cloneInteger(a api.Int) api.Int {
	return api.Int{Neg: a.Neg, Mag: slices.Clone(a.Mag)}
}

func clone(p api.Poly) api.Poly {
	var out api.Poly
	for _, c := range p {
		out = append(out, cloneInteger(c))
	}
	return out
}

func cloneAll(l []api.Poly) []api.Poly {
	var out []api.Poly
	for _, p := range l {
		out = append(out, clone(p))
	}
	return out
}

func equalInteger(a, b api.Int) bool {
	return a.Neg == b.Neg && slices.Equal(a.Mag, b.Mag)
}

func equal(p, q api.Poly) bool {
	return slices.EqualFunc(p, q, equalInteger)
}

func allEqual(x, y []api.Poly) bool {
	return slices.EqualFunc(x, y, equal)
}

// scribble overwrites limbs, up to their capacity, as their owner may.
func scribble(a api.Int) {
	limbs := a.Mag[:cap(a.Mag)]
	for i := range limbs {
		limbs[i] = 0x5555
	}
}

// scribbleAll overwrites all coefficients, and then the list, up to its capacity.
func scribbleAll(p api.Poly) {
	p = p[:cap(p)]
	for i := range p {
		scribble(p[i])
		p[i] = api.Int{Neg: true, Mag: []uint64{3, 0}}
	}
}

func ruleTriples(f func(p, q api.Poly, c api.Int)) {
	s := source(88172645463325252)
	all := []list{nil, small(6), small(-1), small(0, 1), small(-2, 0, 2), small(4, 4), small(1, 0, 0, -3), s.list(3, 70), s.list(6, 200)}
	for _, p := range all {
		for _, q := range all {
			for i, form := range forms(p) {
				for _, c := range integerForms(whole(int64(i) - 2)) {
					f(clone(form), clone(forms(q)[3-i]), c)
				}
			}
		}
	}
}

func TestR1ArgumentsStay(t *testing.T) {
	ruleTriples(func(p, q api.Poly, c api.Int) {
		oldP, oldQ, oldC := clone(p), clone(q), cloneInteger(c)
		Same(p, q)
		Degree(p)
		for _, got := range results(p, q, c) {
			scribbleAll(got)
		}
		if !equal(p, oldP) || !equal(q, oldQ) || !equalInteger(c, oldC) {
			t.Fatalf("arguments %v, %v, %v have become %v, %v, %v", oldP, oldQ, oldC, p, q, c)
		}
	})
}

func TestR1ResultsStay(t *testing.T) {
	ruleTriples(func(p, q api.Poly, c api.Int) {
		oldP, oldQ := clone(p), clone(q)
		got := results(p, q, c)
		old := cloneAll(got)
		scribbleAll(p)
		scribbleAll(q)
		scribble(c)
		if !allEqual(got, old) {
			t.Fatalf("results for %v, %v change with the arguments", oldP, oldQ)
		}
		for i := range got {
			scribbleAll(got[i])
			if !allEqual(got[i+1:], old[i+1:]) {
				t.Fatalf("results for %v, %v share memory", oldP, oldQ)
			}
		}
	})
}

// The coefficients of one result do not share their limbs.
func TestR1CoefficientsStay(t *testing.T) {
	ruleTriples(func(p, q api.Poly, c api.Int) {
		for _, got := range results(p, q, c) {
			old := clone(got)
			for i := range got {
				scribble(got[i])
				if !equal(got[i+1:], old[i+1:]) {
					t.Fatalf("coefficients of %v, made of %v, %v, share memory", old, p, q)
				}
			}
		}
	})
}

func TestR2OnePolynomialTwice(t *testing.T) {
	for _, p := range lists() {
		form := forms(p)[3]
		wantSame(t, form, form, true)
		wantPoly(t, "p + p", Add(form, form), scaled(p, whole(2)))
		wantPoly(t, "p - p", Sub(form, form), nil)
		wantPoly(t, "p p", Mul(form, form), product(p, p))
		wantPoly(t, "Gcd of p and p", Gcd(form, form), greatest(p, p))
		if len(p) == 0 {
			continue
		}
		one, code := Divide(form, form)
		wantPoly(t, "p by p", one, small(1))
		factor, rest, codeRest := Rest(form, form)
		wantPoly(t, "Rest of p and p, t", factor, list{p[len(p)-1]})
		wantPoly(t, "Rest of p and p, r", rest, nil)
		if code != api.OK || codeRest != api.OK {
			t.Fatalf("errors %d, %d", code, codeRest)
		}
	}
}

// Zeros at the end of a long list cost nothing.
func TestR2LongListsOfZeros(t *testing.T) {
	p := append(of(-2, 0, 2), make(api.Poly, 1_000_000)...)
	two := integer(whole(2))
	wantPoly(t, "Norm", Norm(p), small(-2, 0, 2))
	wantPoly(t, "Add", Add(p, p), small(-4, 0, 4))
	wantPoly(t, "Mul", Mul(p, p), small(4, 0, -8, 0, 4))
	wantInteger(t, "Value", Value(p, two), whole(6))
	wantPoly(t, "Shift", Shift(p, two), small(6, 8, 2))
	wantPoly(t, "Stretch", Stretch(p, two), small(-2, 0, 8))
	wantPoly(t, "Derive", Derive(p), small(0, 4))
	wantPoly(t, "Gcd", Gcd(p, p), small(-2, 0, 2))
	wantPoly(t, "Simple", Simple(p), small(-1, 0, 1))
	one, _ := Divide(p, p)
	wantPoly(t, "Divide", one, small(1))
	factor, rest, _ := Rest(p, p)
	wantPoly(t, "Rest, t", factor, small(2))
	wantPoly(t, "Rest, r", rest, nil)
}

func TestR4EqualCalls(t *testing.T) {
	ruleTriples(func(p, q api.Poly, c api.Int) {
		roomy := append(make(api.Poly, 0, 50), p...)
		for i := range roomy {
			roomy[i].Mag = append(make([]uint64, 0, 50), p[i].Mag...)
		}
		if !allEqual(results(p, q, c), results(roomy, q, c)) {
			t.Fatalf("equal calls with %v, %v differ", p, q)
		}
	})
}

func TestR6PolyzUsesZedAlone(t *testing.T) {
	files, err := filepath.Glob("*.go")
	if err != nil || len(files) == 0 {
		t.Fatal("no files", err)
	}
	for _, name := range files {
		if strings.HasSuffix(name, "_test.go") {
			continue
		}
		file, err := parser.ParseFile(token.NewFileSet(), name, nil, parser.ImportsOnly)
		if err != nil {
			t.Fatal(err)
		}
		for _, used := range file.Imports {
			if path := used.Path.Value; path != `"hairline/api"` && path != `"hairline/zed"` {
				t.Errorf("%s imports %s", name, path)
			}
		}
	}
}
