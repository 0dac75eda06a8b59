package point

import (
	"go/parser"
	"go/token"
	"path/filepath"
	"slices"
	"strings"
	"testing"

	"hairline/api"
)

func clone(a api.Int) api.Int {
	return api.Int{Neg: a.Neg, Mag: slices.Clone(a.Mag)}
}

func alike(a, b api.Int) bool {
	return a.Neg == b.Neg && slices.Equal(a.Mag, b.Mag)
}

// scribble overwrites the limbs up to their capacity, as their owner may.
func scribble(a api.Int) {
	limbs := a.Mag[:cap(a.Mag)]
	for i := range limbs {
		limbs[i] = 0x5555
	}
}

// ruleBalls are valid ones and others, with ends in normal form and not.
func ruleBalls() []api.Ball {
	var out []api.Ball
	r := source(17)
	for _, q := range []int{0, 5, 2048, -1, 2049} {
		for _, b := range []ends{
			small(0, 0), small(1, 1), small(-6, -6), small(-1, 8), small(9, 11), small(-8, 0), small(5, 4),
			{r.wide(100), r.wide(500)}, {power2(64), power2(64)}, {plus(power2(64), 1), power2(200)},
		} {
			for _, form := range append(b.forms(q), b.negative().forms(q)...) {
				out = append(out, api.Ball{Lo: clone(form.Lo), Hi: clone(form.Hi), Q: form.Q})
			}
		}
	}
	return out
}

// gaps are what Gap returns for a ball, without copying.
func gaps(b api.Ball) []api.Int {
	var out []api.Int
	for _, s := range []int{-1, 0, 1, 2, 3, 63, 64, 65, 200, 2048, 2049} {
		least, most, _ := Gap(b, s)
		out = append(out, least, most)
	}
	return out
}

// looks are the integers of what Look returns for a pattern, without copying.
func looks(b uint64) []api.Int {
	var out []api.Int
	for f := -1; f <= 6; f++ {
		for _, m := range []int{0, 1, 32, 128} {
			got, _ := Look(f, b, m)
			out = append(out, got.Ball.Lo, got.Ball.Hi, got.Least, got.Most)
		}
	}
	return out
}

func TestR1ArgumentsStay(t *testing.T) {
	for _, b := range ruleBalls() {
		lo, hi := clone(b.Lo), clone(b.Hi)
		Scale(b)
		for _, x := range gaps(b) {
			scribble(x)
		}
		if !alike(b.Lo, lo) || !alike(b.Hi, hi) {
			t.Fatalf("the ends %v and %v have become %v and %v", lo, hi, b.Lo, b.Hi)
		}
	}
}

func copies(l []api.Int) []api.Int {
	out := make([]api.Int, len(l))
	for i := range l {
		out[i] = clone(l[i])
	}
	return out
}

// wantApart looks whether overwriting one result changes no other.
func wantApart(t *testing.T, got []api.Int) {
	t.Helper()
	old := copies(got)
	for i := range got {
		scribble(got[i])
		if !slices.EqualFunc(got[i+1:], old[i+1:], alike) {
			t.Fatalf("result %d of %d shares memory with another", i, len(got))
		}
	}
}

func TestR1ResultsOfGapStay(t *testing.T) {
	for _, b := range ruleBalls() {
		same := api.Ball{Lo: clone(b.Lo), Hi: clone(b.Hi), Q: b.Q}
		got := gaps(b)
		old := copies(got)
		scribble(b.Lo)
		scribble(b.Hi)
		if !slices.EqualFunc(got, old, alike) {
			t.Fatalf("results for %v change with the argument", same)
		}
		wantApart(t, got)
		if !slices.EqualFunc(gaps(same), old, alike) {
			t.Fatalf("results for %v change once they have been overwritten", same)
		}
	}
}

func TestR1ResultsOfLookStay(t *testing.T) {
	for _, b := range []uint64{bitsOf(1), bitsOf(2), bitsOf(-1), bitsOf(0.7), bitsOf(0x1p-400), 0} {
		first := looks(b)
		old := copies(first)
		wantApart(t, append(first, looks(b)...))
		if !slices.EqualFunc(looks(b), old, alike) {
			t.Fatalf("results for %#x change once they have been overwritten", b)
		}
	}
}

func TestR2AnyBall(t *testing.T) {
	for _, b := range ruleBalls() {
		for _, q := range append(wrongQ(), 0, 1, 2048) {
			for _, s := range append(wrongQ(), 0, 1, 64, 2048) {
				b.Q = q
				n, ok := Scale(b)
				least, most, code := Gap(b, s)
				right := q >= 0 && q <= 2048 && value(b.Lo).Cmp(value(b.Hi)) <= 0
				if ok && !right || !ok && n != 0 || (code == api.OK) != (right && s >= 0 && s <= 2048) || value(least).Cmp(value(most)) > 0 {
					t.Fatalf("%v with s = %d: Scale %d, %v, Gap %v, %v, error %d", b, s, n, ok, least, most, code)
				}
			}
		}
	}
}

func TestR2AnyPattern(t *testing.T) {
	s := source(2463534242)
	for i := range 400 {
		b, f, m := s.next(), s.upTo(-2, 7), s.upTo(-3, 132)
		if i%8 == 0 {
			b &= sign | full>>12 // not normal
		}
		got, code := Look(f, b, m)
		field := b >> 52 & 2047
		right := f >= 0 && f <= 5 && m >= 1 && m <= 128 && field > 0 && field < 2047 && taken(f, b)
		if (code == api.OK) != right || code != api.OK && code != api.ErrArg || got.S != 0 && !right {
			t.Fatalf("function %d of %#x with m = %d: %v, error %d", f, b, m, got, code)
		}
	}
}

func TestR4EqualCalls(t *testing.T) {
	for _, b := range ruleBalls() {
		roomy := api.Ball{Lo: clone(b.Lo), Hi: clone(b.Hi), Q: b.Q}
		roomy.Lo.Mag = append(make([]uint64, 0, 50), b.Lo.Mag...)
		roomy.Hi.Mag = append(make([]uint64, 0, 50), b.Hi.Mag...)
		n, ok := Scale(b)
		again, okAgain := Scale(roomy)
		if n != again || ok != okAgain || !slices.EqualFunc(gaps(b), gaps(roomy), alike) {
			t.Fatalf("equal calls with %v differ", b)
		}
	}
	for _, x := range []float64{1, 0.1, 0x1p-350} {
		before := looks(bitsOf(x))
		looks(bitsOf(5.5))
		if !slices.EqualFunc(before, looks(bitsOf(x)), alike) {
			t.Fatalf("equal calls with %v differ", x)
		}
	}
}

func TestR6PointUsesLayersBelow(t *testing.T) {
	files, err := filepath.Glob("*.go")
	if err != nil || len(files) == 0 {
		t.Fatal("no files", err)
	}
	below := []string{"hairline/api", "hairline/zed", "hairline/bits", "hairline/ball", "hairline/elem"}
	for _, name := range files {
		if strings.HasSuffix(name, "_test.go") {
			continue
		}
		file, err := parser.ParseFile(token.NewFileSet(), name, nil, parser.ImportsOnly)
		if err != nil {
			t.Fatal(err)
		}
		for _, used := range file.Imports {
			if path := strings.Trim(used.Path.Value, `"`); !slices.Contains(below, path) {
				t.Errorf("%s imports %s", name, path)
			}
		}
	}
}
