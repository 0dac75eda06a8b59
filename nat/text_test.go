package nat

import (
	"strings"
	"testing"
)

func TestA5Hex(t *testing.T) {
	for _, c := range []struct {
		a    []uint64
		want string
	}{
		{nil, "0"},
		{[]uint64{0, 0}, "0"},
		{[]uint64{255}, "ff"},
		{[]uint64{16, 0}, "10"},
		{[]uint64{0x0123456789abcdef}, "123456789abcdef"},
		{[]uint64{0xfedcba9876543210}, "fedcba9876543210"},
		{[]uint64{0, 1}, "10000000000000000"},
		{[]uint64{0xab, 0xcd, 0}, "cd00000000000000ab"},
	} {
		if got := Hex(c.a); got != c.want {
			t.Errorf("Hex(%x) = %q, want %q", c.a, got, c.want)
		}
	}
	for _, a := range samples() {
		if got, want := Hex(a), value(a).Text(16); got != want {
			t.Errorf("Hex(%x) = %q, want %q", a, got, want)
		}
	}
}

func TestA5Parse(t *testing.T) {
	for _, c := range []struct {
		s    string
		want []uint64
	}{
		{"0", nil},
		{strings.Repeat("0", 40), nil},
		{"00ff", []uint64{255}},
		{"ABCDEFabcdef0123", []uint64{0xabcdefabcdef0123}},
		{"456789", []uint64{0x456789}},
		{"10000000000000000", []uint64{0, 1}},
		{strings.Repeat("0", 33) + "F", []uint64{15}},
	} {
		got, ok := Parse(c.s)
		if !ok {
			t.Errorf("Parse(%q): false", c.s)
		}
		wantLimbs(t, "Parse of "+c.s, got, c.want...)
	}
}

func TestA5ParseWrong(t *testing.T) {
	wrong := []string{"", " ", "-1", "+1", "0x1", "1 ", " 1", "1_0", "g", "G", "1.", "12\n", "\x00", "é", "\xff", "١", strings.Repeat("a", 50) + "-", "-" + strings.Repeat("a", 50)}
	for _, s := range wrong {
		if got, ok := Parse(s); ok || got != nil {
			t.Errorf("Parse(%q): %x, %v", s, got, ok)
		}
	}
	for c := range 256 {
		s := string([]byte{'1', byte(c)})
		_, ok := Parse(s)
		if want := strings.Contains("0123456789abcdefABCDEF", s[1:]); ok != want {
			t.Errorf("Parse(%q): %v", s, ok)
		}
	}
}

func TestParseOfHex(t *testing.T) {
	for _, a := range samples() {
		for _, s := range []string{Hex(a), strings.ToUpper(Hex(a)), "000" + Hex(a)} {
			got, ok := Parse(s)
			if !ok {
				t.Fatalf("Parse(%q): false", s)
			}
			wantNumber(t, "Parse of Hex", got, value(a))
		}
	}
}
