package elem

import (
	"math/big"
	"strconv"
	"testing"

	"hairline/api"
	"hairline/dyad"
)

// sample is a call for m times 2^e whose result was computed without the program.
type sample struct {
	m      int64
	e, q   int
	lo, hi int64
	k      int
}

func wantSamples(t *testing.T, f int, all []sample) {
	t.Helper()
	for _, c := range all {
		wantAt(t, f, small(c.m, c.e), c.q, big.NewInt(c.lo), big.NewInt(c.hi), c.k)
	}
}

func TestH1Examples(t *testing.T) {
	wantSamples(t, api.Exp, []sample{{0, 0, 8, 256, 256, 0}, {1, 0, 8, 347, 348, 1}})
	wantSamples(t, api.Exp2, []sample{{-3, 0, 8, 256, 256, -3}})
	wantSamples(t, api.Log, []sample{{1, 0, 8, 0, 0, 0}})
	wantSamples(t, api.Sin, []sample{{0, 0, 8, 0, 0, 0}})
	wantSamples(t, api.Cos, []sample{{0, 0, 8, 256, 256, 0}})
}

func TestH1ExpSamples(t *testing.T) {
	wantSamples(t, api.Exp, []sample{
		{0, 0, 0, 1, 1, 0}, {1, 0, 0, 1, 2, 1}, {-1, 0, 0, 1, 2, -2}, {700, 0, 0, 1, 2, 1009},
		{1, 0, 20, 1425162, 1425163, 1}, {-1, 0, 20, 1542998, 1542999, -2},
		{1, -1, 20, 1728809, 1728810, 0}, {-1, -1, 20, 1271986, 1271987, -1},
		{3, 0, 20, 1316325, 1316326, 4}, {-3, 0, 20, 1670576, 1670577, -5},
		{700, 0, 20, 1938525, 1938526, 1009}, {-700, 0, 20, 1134379, 1134380, -1010},
		{1023, 0, 20, 1925800, 1925801, 1475}, {-1023, 0, 20, 1141874, 1141875, -1476},
		{1, -30, 20, 1048576, 1048577, 0}, {-1, -30, 20, 2097151, 2097152, -1},
	})
}

func TestH1Exp2Samples(t *testing.T) {
	wantSamples(t, api.Exp2, []sample{
		{0, 0, 0, 1, 1, 0}, {1, -1, 0, 1, 2, 0}, {-1, -1, 0, 1, 2, -1}, {1023, 0, 0, 1, 1, 1023},
		{1, -1, 20, 1482910, 1482911, 0}, {-1, -1, 20, 1482910, 1482911, -1},
		{5, -1, 20, 1482910, 1482911, 2}, {-5, -1, 20, 1482910, 1482911, -3},
		{1023, 0, 20, 1048576, 1048576, 1023}, {-1023, 0, 20, 1048576, 1048576, -1023},
		{2047, -1, 20, 1482910, 1482911, 1023}, {-2047, -1, 20, 1482910, 1482911, -1024},
		{1, -30, 20, 1048576, 1048577, 0}, {-1, -30, 20, 2097151, 2097152, -1}, {1, -2, 20, 1246974, 1246975, 0},
	})
}

func TestH1LogSamples(t *testing.T) {
	wantSamples(t, api.Log, []sample{
		{1, 0, 0, 0, 0, 0}, {1, -1, 0, -1, 0, 0}, {3, 0, 0, 1, 2, 0}, {10, 0, 0, 2, 3, 0},
		{1, -1, 20, -726818, -726817, 0}, {2, 0, 20, 726817, 726818, 0},
		{3, 0, 20, 1151978, 1151979, 0}, {3, -1, 20, 425160, 425161, 0}, {3, -2, 20, -301657, -301656, 0},
		{10, 0, 20, 2414435, 2414436, 0}, {1, 1100, 20, 799499247, 799499248, 0}, {1, -1100, 20, -799499248, -799499247, 0},
		{1<<30 - 1, -30, 20, -1, 0, 0}, {1<<30 + 1, -30, 20, 0, 1, 0},
	})
}

func TestH1Log2Samples(t *testing.T) {
	wantSamples(t, api.Log2, []sample{
		{1, 0, 0, 0, 0, 0}, {1, -1, 0, -1, -1, 0}, {8, 0, 8, 768, 768, 0}, {10, 0, 0, 3, 4, 0},
		{1, -1, 20, -1048576, -1048576, 0}, {2, 0, 20, 1048576, 1048576, 0},
		{3, 0, 20, 1661953, 1661954, 0}, {3, -1, 20, 613377, 613378, 0}, {3, -2, 20, -435199, -435198, 0},
		{10, 0, 20, 3483294, 3483295, 0}, {1, 1100, 20, 1153433600, 1153433600, 0}, {1, -1100, 20, -1153433600, -1153433600, 0},
		{1<<30 - 1, -30, 20, -1, 0, 0}, {1<<30 + 1, -30, 20, 0, 1, 0},
	})
}

// j is 0, 1, 2 and 3 for 1, 2, 4 and 5, and again for 7, 8, 10 and 11.
func TestH1SinSamples(t *testing.T) {
	all := []sample{
		{0, 0, 20, 0, 0, 0}, {1, -1, 20, 502714, 502715, 0},
		{1, 0, 20, 882346, 882347, 0}, {2, 0, 20, 953467, 953468, 0},
		{4, 0, 20, -793565, -793564, 0}, {5, 0, 20, -1005505, -1005504, 0},
		{7, 0, 20, 688900, 688901, 0}, {8, 0, 20, 1037417, 1037418, 0},
		{10, 0, 20, -570448, -570447, 0}, {11, 0, 20, -1048566, -1048565, 0},
		{1023, 0, 20, -961005, -961004, 0},
	}
	wantSamples(t, api.Sin, all)
	for _, c := range all {
		wantSamples(t, api.Sin, []sample{{-c.m, c.e, c.q, -c.hi, -c.lo, 0}})
	}
}

// j is 1, 2, 3 and 0 for 1, 2, 4 and 5, and again for 7, 8, 10 and 11.
func TestH1CosSamples(t *testing.T) {
	all := []sample{
		{0, 0, 20, 1048576, 1048576, 0}, {1, -1, 20, 920212, 920213, 0},
		{1, 0, 20, 566548, 566549, 0}, {2, 0, 20, -436362, -436361, 0},
		{4, 0, 20, -685396, -685395, 0}, {5, 0, 20, 297441, 297442, 0},
		{7, 0, 20, 790523, 790524, 0}, {8, 0, 20, -152568, -152567, 0},
		{10, 0, 20, -879831, -879830, 0}, {11, 0, 20, 4640, 4641, 0},
		{1023, 0, 20, 419501, 419502, 0},
	}
	wantSamples(t, api.Cos, all)
	for _, c := range all {
		wantSamples(t, api.Cos, []sample{{-c.m, c.e, c.q, c.lo, c.hi, 0}})
	}
}

// Beside an argument with an exact value, a number of units at w makes the
// difference whether the ball reaches over that value: it shows w, and how many
// terms are rounded there. The counts were computed without the program.
func TestH1BesideExactValues(t *testing.T) {
	for _, c := range []struct {
		q    int
		from [5]int64 // of Exp, Exp2, Log, Log2 and Sin
	}{
		{0, [5]int64{8, 12, 24, 24, 11}}, {1, [5]int64{8, 12, 22, 22, 11}}, {2, [5]int64{7, 11, 30, 30, 11}},
		{3, [5]int64{7, 11, 24, 24, 11}}, {4, [5]int64{8, 12, 24, 24, 11}}, {5, [5]int64{8, 12, 29, 29, 11}},
		{6, [5]int64{8, 12, 28, 28, 11}}, {7, [5]int64{7, 11, 27, 27, 11}}, {8, [5]int64{8, 12, 28, 28, 12}},
		{11, [5]int64{9, 13, 27, 27, 12}}, {24, [5]int64{11, 16, 37, 37, 14}}, {60, [5]int64{13, 19, 46, 46, 18}},
		{100, [5]int64{16, 24, 60, 60, 23}}, {300, [5]int64{34, 50, 132, 132, 48}},
		{799, [5]int64{82, 119, 301, 301, 110}}, {800, [5]int64{79, 114, 300, 300, 111}},
	} {
		for f, from := range c.from {
			for _, n := range []int64{1, from / 2, from - 1, from, from + 1, 2 * from} {
				x, limit := units(big.NewInt(-n), c.q+40), int64(0)
				switch f {
				case api.Exp, api.Exp2:
					limit = 2
				case api.Log, api.Log2:
					x.m.Add(x.m, power(c.q+40))
				}
				wantBeside(t, f, x, c.q, limit, n >= from)
			}
		}
	}
}

// The Cos of n units is below 1 by n n / 2^(w+1) units, but each second term is
// rounded up to 1.
func TestH1CosBesideOne(t *testing.T) {
	for _, q := range []int{0, 1, 7, 8, 9, 60, 300, 799, 800} {
		w := q + 40
		squares := new(big.Int).Lsh(big.NewInt(int64(w/8+6)), uint(w+1))
		last := new(big.Int).Sqrt(squares.Sub(squares, big.NewInt(1)))
		for _, n := range []*big.Int{big.NewInt(1), last} {
			wantBeside(t, api.Cos, units(n, w), q, 1, false)
			wantBeside(t, api.Cos, units(n, w).negative(), q, 1, false)
		}
		wantBeside(t, api.Cos, units(new(big.Int).Add(last, big.NewInt(1)), w), q, 1, true)
	}
}

// wantBeside looks whether the ball of a value a little below limit ends there,
// or reaches one place further.
func wantBeside(t *testing.T, f int, x dyadic, q int, limit int64, ends bool) {
	t.Helper()
	hi, lo := new(big.Int).Lsh(big.NewInt(limit), uint(q)), new(big.Int)
	lo.Sub(hi, big.NewInt(1))
	if !ends {
		hi.Add(hi, big.NewInt(1))
	}
	k := 0
	if f == api.Exp || f == api.Exp2 {
		k = -1
	}
	got, gotK := at(t, f, x, q)
	wantBall(t, names()[f]+" of "+x.String(), got, lo, hi, q)
	if gotK != k {
		t.Fatalf("%s of %v at %d: K %d, want %d", names()[f], x, q, gotK, k)
	}
}

// H1: the ball and K are exactly those that the chapter's steps describe. Before
// it is passed to Recast, the ball's ends still show all of them. At 149 and 709,
// Pi and Ln2 of w are wider than is usual: no other ball can stand for them.
func TestH1FollowsTheSteps(t *testing.T) {
	for f := range names() {
		for _, q := range []int{0, 1, 2, 3, 5, 8, 23, 24, 25, 64, 88, 149, 300, 709, 799, 800} {
			t.Run(names()[f]+" at "+strconv.Itoa(q), func(t *testing.T) {
				t.Parallel()
				p := placeAt(q + 40)
				for i, x := range p.arguments(f) {
					if q > 100 && i%5 > 0 { // these take long
						continue
					}
					p.wantSteps(t, f, x, q)
				}
			})
		}
	}
}

func (p place) wantSteps(t *testing.T, f int, x dyadic, q int) {
	t.Helper()
	b, k := p.steps(f, x)
	fine, fineK := functionOf(f).enclose(dyad.Norm(x.argument()), p.w)
	wantBall(t, names()[f]+" at w of "+x.String(), fine.Ball, b.lo, b.hi, p.w)
	got, gotK := at(t, f, x, q)
	b = b.recast(p.w, q)
	wantBall(t, names()[f]+" of "+x.String(), got, b.lo, b.hi, q)
	if fineK != k || gotK != k {
		t.Fatalf("%s of %v at %d: K %d, %d, want %d", names()[f], x, q, fineK, gotK, k)
	}
}

func TestH1MoreQ(t *testing.T) {
	for f, name := range names() {
		t.Run(name, func(t *testing.T) {
			t.Parallel()
			x := small(int64(f)*1234567+98765432101, -34+f)
			for q := 0; q <= 800; q += 1 + q/40 {
				placeAt(q+40).wantSteps(t, f, x, q)
			}
		})
	}
}

// K is taken by the Hi of L for arguments from 0 on, and by its Lo for negative
// ones: beside a multiple of ln 2 that makes a difference.
func TestH1WhichEndOfLn2(t *testing.T) {
	for _, q := range []int{0, 8, 64, 300, 800} {
		L := placeAt(q + 40).L
		for _, k := range []int64{1, 2, 3, 100, 1000, 1400} {
			for _, c := range []struct {
				end  *big.Int
				k, K int64
			}{{L.hi, k, k}, {L.lo, k, k - 1}, {L.lo, -k, -k}, {L.hi, -k, -k - 1}} {
				x := units(new(big.Int).Mul(c.end, big.NewInt(c.k)), q+40)
				if _, K := at(t, api.Exp, x, q); K != int(c.K) {
					t.Errorf("Exp of %v at %d: K %d, want %d", x, q, K, c.K)
				}
			}
		}
	}
}

// The arguments that are tried have all remainders j with both signs.
func TestArgumentsHaveEachRemainder(t *testing.T) {
	for _, w := range []int{40, 340, 840} {
		p := placeAt(w)
		for _, f := range []int{api.Sin, api.Cos} {
			seen := map[[2]int64]int{}
			for _, x := range p.arguments(f) {
				k, _ := p.turns(x)
				seen[[2]int64{remainder(f, k), int64(x.m.Sign())}]++
			}
			for j := range int64(4) {
				if seen[[2]int64{j, 1}] == 0 || seen[[2]int64{j, -1}] == 0 {
					t.Errorf("%s at w = %d: %v, not both signs with j = %d", names()[f], w, seen, j)
				}
			}
		}
	}
}
