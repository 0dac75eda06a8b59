package bits

import (
	"go/parser"
	"go/token"
	"path/filepath"
	"slices"
	"strings"
	"testing"

	"hairline/api"
)

func clone(d api.Dyad) api.Dyad {
	return api.Dyad{M: api.Int{Neg: d.M.Neg, Mag: slices.Clone(d.M.Mag)}, E: d.E}
}

func alike(a, b api.Dyad) bool {
	return a.E == b.E && a.M.Neg == b.M.Neg && slices.Equal(a.M.Mag, b.M.Mag)
}

// scribble overwrites the limbs up to their capacity, as their owner may.
func scribble(d api.Dyad) {
	limbs := d.M.Mag[:cap(d.M.Mag)]
	for i := range limbs {
		limbs[i] = 0x5555
	}
}

func TestR1ArgumentsStay(t *testing.T) {
	for _, d := range dyads() {
		old := clone(d)
		Of(d)
		Near(d)
		if !alike(d, old) {
			t.Fatalf("the argument %v has become %v", old, d)
		}
	}
}

func TestR1ResultsBelongToTheCaller(t *testing.T) {
	for _, b := range patterns() {
		first, _ := Value(b)
		old := clone(first)
		second, _ := Value(b)
		scribble(first)
		third, _ := Value(b)
		if !alike(second, old) || !alike(third, old) {
			t.Fatalf("values of %#x share memory", b)
		}
	}
}

func TestR4EqualCalls(t *testing.T) {
	for _, d := range dyads() {
		roomy := api.Dyad{M: api.Int{Neg: d.M.Neg, Mag: append(make([]uint64, 0, 200), d.M.Mag...)}, E: d.E}
		b, code := Of(d)
		near, nearCode := Near(d)
		b2, code2 := Of(roomy)
		near2, nearCode2 := Near(roomy)
		if b != b2 || code != code2 || near != near2 || nearCode != nearCode2 {
			t.Fatalf("equal calls with %v differ", d)
		}
	}
}

func TestR6BitsUsesDyadAlone(t *testing.T) {
	files, err := filepath.Glob("*.go")
	if err != nil || len(files) == 0 {
		t.Fatal("no files", err)
	}
	for _, name := range files {
		if strings.HasSuffix(name, "_test.go") {
			continue
		}
		file, err := parser.ParseFile(token.NewFileSet(), name, nil, parser.ImportsOnly)
		if err != nil {
			t.Fatal(err)
		}
		for _, used := range file.Imports {
			path := strings.Trim(used.Path.Value, `"`)
			if path != "hairline/api" && path != "hairline/dyad" {
				t.Errorf("%s imports %s", name, path)
			}
		}
	}
}
