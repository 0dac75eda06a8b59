package nat

import "testing"

func TestA1Norm(t *testing.T) {
	wantLimbs(t, "nil", Norm(nil))
	wantLimbs(t, "zero limbs only", Norm([]uint64{0, 0, 0}))
	wantLimbs(t, "zeros below stay", Norm([]uint64{0, 0, 7, 0}), 0, 0, 7)
	wantLimbs(t, "normal already", Norm([]uint64{1, 2}), 1, 2)
	for _, a := range samples() {
		wantNumber(t, "Norm", Norm(a), value(a))
	}
}

func TestA1Cmp(t *testing.T) {
	for _, c := range []struct {
		a, b []uint64
		want int
	}{
		{nil, nil, 0},
		{nil, []uint64{0, 0}, 0},
		{[]uint64{5, 0, 0}, []uint64{5}, 0},
		{[]uint64{1}, []uint64{0, 0, 0}, 1},
		{[]uint64{full, 0}, []uint64{0, 1}, -1},
		{[]uint64{9, 1}, []uint64{1, 9}, -1},
		{[]uint64{1 << 63}, []uint64{1<<63 - 1}, 1},
	} {
		if got := Cmp(c.a, c.b); got != c.want {
			t.Errorf("Cmp(%x, %x) = %d, want %d", c.a, c.b, got, c.want)
		}
	}
	pairs(func(a, b []uint64) {
		if got, want := Cmp(a, b), value(a).Cmp(value(b)); got != want {
			t.Fatalf("Cmp(%x, %x) = %d, want %d", a, b, got, want)
		}
	})
}

func TestA1BitLen(t *testing.T) {
	if BitLen(nil) != 0 || BitLen([]uint64{0, 0}) != 0 {
		t.Error("BitLen of 0 is not 0")
	}
	for i := range 200 {
		power := make([]uint64, 5)
		power[i/64] = 1 << (i % 64)
		if got := BitLen(power); got != i+1 {
			t.Errorf("BitLen of 2^%d = %d", i, got)
		}
	}
	for _, a := range samples() {
		if got, want := BitLen(a), value(a).BitLen(); got != want {
			t.Errorf("BitLen(%x) = %d, want %d", a, got, want)
		}
	}
}

func TestA1Bit(t *testing.T) {
	const most = int(^uint(0) >> 1)
	ones := []uint64{full, full}
	for _, i := range []int{-1, -64, -most - 1, 128, 129, most} {
		if Bit(ones, i) {
			t.Errorf("Bit %d of 2^128 - 1 is set", i)
		}
	}
	if Bit(nil, 0) || !Bit(ones, 0) || !Bit(ones, 127) {
		t.Error("Bit at the ends")
	}
	for _, a := range samples() {
		for i := range 64*len(a) + 70 {
			if got, want := Bit(a, i), value(a).Bit(i) == 1; got != want {
				t.Fatalf("Bit(%x, %d) = %v", a, i, got)
			}
		}
	}
}
