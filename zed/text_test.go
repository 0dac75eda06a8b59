package zed

import (
	"math/big"
	"strings"
	"testing"

	"hairline/api"
)

func TestB4Text(t *testing.T) {
	for _, zero := range zeroForms() {
		if got := Text(zero); got != "0" {
			t.Errorf("Text of 0 as %v: %q", zero, got)
		}
	}
	for _, n := range []int64{7, -7, 10, -10, 999, 1000, most, least, least + 1} {
		if got, want := Text(Of(n)), big.NewInt(n).String(); got != want {
			t.Errorf("Text of %d: %q", n, got)
		}
	}
	if got := Text(api.Int{Neg: true, Mag: []uint64{0, 1, 0, 0}}); got != "-18446744073709551616" {
		t.Errorf("Text of -2^64: %q", got)
	}
	for _, a := range samples() {
		if got, want := Text(a), value(a).String(); got != want {
			t.Fatalf("Text of %s: %q", want, got)
		}
	}
}

// Here the number of digits changes, and with it the cuts by powers of ten.
func TestB4PowersOfTen(t *testing.T) {
	for n := range 330 {
		power := "1" + strings.Repeat("0", n)
		a, ok := Parse(power)
		if !ok || Text(a) != power {
			t.Fatalf("10^%d: %q, %v", n, Text(a), ok)
		}
		want, _ := new(big.Int).SetString(power, 10)
		wantValue(t, "Parse of a power", a, want)
		below := Sub(a, Of(1))
		if want := strings.Repeat("9", n); n > 0 && Text(below) != want {
			t.Fatalf("10^%d - 1: %q", n, Text(below))
		}
		want.Add(want, big.NewInt(1)).Neg(want)
		if got := Text(Sub(Neg(a), Of(1))); got != want.String() {
			t.Fatalf("-10^%d - 1: %q", n, got)
		}
	}
}

func TestB4Parse(t *testing.T) {
	for _, c := range []struct {
		s    string
		want int64
	}{
		{"0", 0}, {"-0", 0}, {"000", 0}, {"-" + strings.Repeat("0", 50), 0},
		{"7", 7}, {"-7", -7}, {"007", 7}, {"-007", -7}, {"1234567890", 1234567890},
		{"9223372036854775807", most}, {"-9223372036854775808", least},
		{strings.Repeat("0", 100) + "5", 5}, {"-" + strings.Repeat("0", 100) + "50", -50},
	} {
		got, ok := Parse(c.s)
		if !ok {
			t.Errorf("Parse of %q: false", c.s)
		}
		wantSmall(t, "Parse of "+c.s, got, c.want)
	}
	limb, _ := Parse("-18446744073709551616")
	wantValue(t, "Parse of -2^64", limb, value(api.Int{Neg: true, Mag: []uint64{0, 1}}))
}

func TestB4ParseWrong(t *testing.T) {
	wrong := []string{
		"", "-", "--", "--1", "+", "+1", "-+1", "1-", "1-2", " ", " 1", "1 ", "- 1", "-1\n", "1_000", "1.0", "1e3", "0x1",
		"a", "f", "/", ":", "\x00", "1\x00", "é", "\xff", "١", "−1",
		strings.Repeat("1", 60) + "a", "a" + strings.Repeat("1", 60), strings.Repeat("1", 30) + "-" + strings.Repeat("1", 30),
	}
	for _, s := range wrong {
		got, ok := Parse(s)
		wantNothing(t, "Parse of "+s, got, ok)
	}
	for c := range 256 {
		s := string([]byte{'1', byte(c)})
		if _, ok := Parse(s); ok != ('0' <= c && c <= '9') {
			t.Errorf("Parse of %q: %v", s, ok)
		}
		s = string([]byte{byte(c), '1'})
		if _, ok := Parse(s); ok != ('0' <= c && c <= '9' || c == '-') {
			t.Errorf("Parse of %q: %v", s, ok)
		}
	}
}

func TestB4ParseOfText(t *testing.T) {
	for _, a := range samples() {
		text := Text(a)
		got, ok := Parse(text)
		if !ok {
			t.Fatalf("Parse of %q: false", text)
		}
		wantValue(t, "Parse of Text", got, value(a))
	}
}

func TestB4LongNumbers(t *testing.T) {
	s := source(362436069)
	for _, n := range []int{1000, 1563} {
		a := s.integer(n)
		want := value(a)
		text := Text(a)
		if text != want.String() {
			t.Fatalf("Text of %d limbs is wrong", n)
		}
		got, _ := Parse(text)
		wantValue(t, "Parse of a long text", got, want)
	}
}
