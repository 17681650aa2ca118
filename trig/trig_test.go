package trig

import (
	"math"
	"math/big"
	"math/rand/v2"
	"slices"
	"testing"

	"diapason/dd"
)

const most = 1 << 40

// precise: with many more bits than the bounds ask for.
func precise() *big.Float { return new(big.Float).SetPrec(320) }

func exactFloat(a float64) *big.Float { return precise().SetFloat64(a) }

func wholeNumber(a int64) *big.Float { return precise().SetInt64(a) }

func exact(a dd.Num) *big.Float { return precise().Add(exactFloat(a.Hi), exactFloat(a.Lo)) }

func remainder(k, n int64) int64 {
	return new(big.Int).Mod(big.NewInt(k), big.NewInt(n)).Int64()
}

// nextTerm: of a series, the next term but one.
func nextTerm(term, squared *big.Float, k int64) *big.Float {
	term = precise().Mul(term, squared)
	return term.Quo(term, wholeNumber(-k*(k-1)))
}

// cosSin: the cosine and the sine of k n-ths of a turn, by their series at the angle itself, whatever its octant.
func cosSin(k, n int64) (c, s *big.Float) {
	const pi = "3.1415926535897932384626433832795028841971693993751058209749445923078164062862089986280348253421170679"
	angle, _ := precise().SetString(pi)
	angle.Mul(angle, wholeNumber(2*remainder(k, n)))
	angle.Quo(angle, wholeNumber(n))
	squared := precise().Mul(angle, angle)
	c, s = precise(), precise()
	even, odd := wholeNumber(1), angle
	for i := int64(2); i < 140; i += 2 {
		c, s = c.Add(c, even), s.Add(s, odd)
		even, odd = nextTerm(even, squared, i), nextTerm(odd, squared, i+1)
	}
	return c, s
}

func differs(got, want *big.Float, by float64) bool {
	rest := precise().Sub(got, want)
	return rest.Abs(rest).Cmp(exactFloat(by)) > 0
}

func isTame(a dd.Num) bool {
	nearest, _ := exact(a).Float64()
	hi, lo := math.Abs(a.Hi), math.Abs(a.Lo)
	return nearest == a.Hi && (hi == 0 || hi >= 0x1p-150 && hi <= 0x1p150) && (lo == 0 || lo >= 0x1p-400)
}

// tell gives all that is told of a part of a turn: the high and the low floats, and the floats alone.
func tell(k, n int64) [6]float64 {
	c, s := Exact(k, n)
	x, y := Turn(k, n)
	return [6]float64{c.Hi, c.Lo, s.Hi, s.Lo, x, y}
}

// part is a part of a turn.
type part struct{ k, n int64 }

// smallParts: all parts of small n, and of some beside powers of two, one turn and more either way.
func smallParts() []part {
	var l []part
	for n := int64(1); n <= 48; n++ {
		for k := -n - 3; k <= n+3; k++ {
			l = append(l, part{k, n})
		}
	}
	for _, n := range []int64{60, 63, 64, 65, 96, 97, 100, 120, 128, 255, 256, 257} {
		for k := range n {
			l = append(l, part{k, n})
		}
	}
	return l
}

// greatParts: parts of great n on and beside the axes and the borders of the octants, and of extreme k.
func greatParts() []part {
	var l []part
	for _, n := range []int64{999983, 1 << 20, 1<<31 - 1, 1 << 32, 1<<32 + 4, 3 << 37, 1<<39 + 7, 1<<40 - 87, 1<<40 - 8, most - 1, most} {
		for octant := range int64(9) {
			for _, by := range []int64{-2, -1, 0, 1, 2} {
				l = append(l, part{octant*n/8 + by, n}, part{octant*n/8 + by - n, n})
			}
		}
		for _, k := range []int64{math.MinInt64, math.MinInt64 + 1, math.MaxInt64, math.MaxInt64 - 1, -n, n, 1 << 62, -1 << 62} {
			l = append(l, part{k, n})
		}
	}
	for n := int64(1); n <= 17; n++ {
		l = append(l, part{math.MinInt64, n}, part{math.MaxInt64, n}, part{math.MinInt64 + n, n})
	}
	return l
}

// chanceParts: parts of any n up to 2^40, a third of them near an axis.
func chanceParts() []part {
	r := rand.New(rand.NewPCG(1, 2))
	var l []part
	for range 1500 {
		n := 1 + r.Int64N(most>>r.IntN(40))
		l = append(l, part{int64(r.Uint64()), n}, part{r.Int64N(n), n}, part{r.Int64N(8)*n/8 + r.Int64N(3)<<r.IntN(20), n})
	}
	return l
}

func allParts() []part { return slices.Concat(smallParts(), greatParts(), chanceParts()) }

// refused: what is no n of a part of a turn.
func refused() []int64 {
	return []int64{0, -1, -8, math.MinInt64, most + 1, most + 8, 1 << 41, 1 << 61, 1 << 62, math.MaxInt64}
}

// P5.1
func TestOctant(t *testing.T) {
	for _, x := range []struct {
		k, n   int64
		octant int
		rest   int64
	}{
		{0, 1, 0, 0}, {5, 1, 0, 0}, {-5, 1, 0, 0}, {1, 2, 4, 0}, {1, 3, 2, 2}, {2, 3, 5, 2}, {1, 4, 2, 0}, {3, 4, 6, 0}, {0, 5, 0, 0}, {1, 5, 1, 2}, {5, 12, 3, 8}, {1, 7, 1, 6}, {6, 7, 6, 6},
		{0, 8, 0, 0}, {1, 8, 1, 8}, {2, 8, 2, 0}, {3, 8, 3, 8}, {4, 8, 4, 0}, {5, 8, 5, 8}, {6, 8, 6, 0}, {7, 8, 7, 8}, {8, 8, 0, 0}, {-1, 8, 7, 8}, {-8, 8, 0, 0}, {-9, 8, 7, 8},
		{1, 16, 0, 8}, {2, 16, 1, 16}, {3, 16, 1, 8}, {15, 16, 7, 8}, {1, most, 0, 8}, {-1, most, 7, 8}, {most / 8, most, 1, most}, {most/8 - 1, most, 0, most - 8}, {most/8 + 1, most, 1, most - 8},
		{most/4 - 1, most, 1, 8}, {most/4 + 1, most, 2, 8}, {most - 1, most - 1, 0, 0}, {(most - 2) / 2, most - 1, 3, 4}, {math.MaxInt64, most, 7, 8}, {math.MinInt64, most, 0, 0}, {math.MaxInt64, 9, 6, 2}, {math.MinInt64, 9, 0, 8}, {math.MinInt64, 7, 6, 6},
	} {
		if octant, rest := Octant(x.k, x.n); octant != x.octant || rest != x.rest {
			t.Errorf("of %d, %d: %d, %d, not %d, %d", x.k, x.n, octant, rest, x.octant, x.rest)
		}
	}
}

// distance: how far 8·q is from an axis, in either sense.
func distance(q, n, axis int64) int64 { return max(8*q-2*axis*n, 2*axis*n-8*q) }

func TestOctantIsThatOfTheChapter(t *testing.T) {
	for _, p := range allParts() {
		q := remainder(p.k, p.n)
		octant, rest := Octant(p.k, p.n)
		if want := 8 * q / p.n; octant < 0 || octant > 7 || int64(octant) != want {
			t.Fatalf("of %v: octant %d, not %d", p, octant, want)
		}
		axis := (int64(octant) + 1) / 2
		if rest < 0 || rest > p.n || rest != distance(q, p.n, axis) {
			t.Fatalf("of %v: rest %d in octant %d", p, rest, octant)
		}
	}
}

// P5.1, P5.2
func TestOtherParts(t *testing.T) {
	for _, n := range refused() {
		for _, k := range []int64{0, 1, -1, n, math.MinInt64, math.MaxInt64} {
			if octant, rest := Octant(k, n); octant != -1 || rest != 0 {
				t.Errorf("Octant(%d, %d) = %d, %d", k, n, octant, rest)
			}
			if got := tell(k, n); got != [6]float64{} {
				t.Errorf("of %d, %d: %x", k, n, got)
			}
		}
	}
}

// P5.2
func TestKnownCosinesAndSines(t *testing.T) {
	half, third := math.Sqrt2/2, math.Sqrt(3)/2
	for _, x := range []struct {
		k, n int64
		c, s float64
	}{
		{0, 1, 1, 0}, {1, 4, 0, 1}, {1, 2, -1, 0}, {3, 4, 0, -1}, {1, 8, half, half}, {3, 8, -half, half}, {5, 8, -half, -half}, {7, 8, half, -half}, {-1, 8, half, -half},
		{1, 6, 0.5, third}, {1, 3, -0.5, third}, {2, 3, -0.5, -third}, {5, 6, 0.5, -third}, {1, 12, third, 0.5}, {7, 12, -third, -0.5}, {1, most, 1, math.Pi * 0x1p-39}, {most/4 + 1, most, -math.Pi * 0x1p-39, 1},
	} {
		if c, s := Turn(x.k, x.n); math.Abs(c-x.c) > 0x1p-52 || math.Abs(s-x.s) > 0x1p-52 {
			t.Errorf("of %d, %d: %v, %v, not %v, %v", x.k, x.n, c, s, x.c, x.s)
		}
	}
}

// P5.2
func TestCosinesAndSinesAreNear(t *testing.T) {
	for _, p := range allParts() {
		wantC, wantS := cosSin(p.k, p.n)
		c, s := Exact(p.k, p.n)
		if !isTame(c) || !isTame(s) {
			t.Fatalf("of %v: %x, %x aren't tame", p, c, s)
		}
		if differs(exact(c), wantC, 0x1p-90) || differs(exact(s), wantS, 0x1p-90) {
			t.Fatalf("of %v: %x, %x", p, c, s)
		}
		if x, y := Turn(p.k, p.n); differs(exactFloat(x), wantC, 0x1p-53) || differs(exactFloat(y), wantS, 0x1p-53) {
			t.Fatalf("of %v: %x, %x", p, x, y)
		}
	}
}

// P5.3
func TestQuartersAreExact(t *testing.T) {
	for _, n := range []int64{1, 2, 4, 12, 1000, 1 << 20, most - 4, most - 1, most} {
		for quarter, want := range [][2]float64{{1, 0}, {0, 1}, {-1, 0}, {0, -1}} {
			if int64(quarter)*n%4 != 0 {
				continue
			}
			for _, turn := range []int64{0, n, -n, 5 * n, -7 * n} {
				k := int64(quarter)*n/4 + turn
				if got := tell(k, n); got != [6]float64{want[0], 0, want[1], 0, want[0], want[1]} {
					t.Errorf("of %d, %d: %x", k, n, got)
				}
				if c, s := Turn(k, n); c == 0 && math.Signbit(c) || s == 0 && math.Signbit(s) {
					t.Errorf("of %d, %d: -0", k, n)
				}
			}
		}
	}
}

// withSigns: of what is told, the cosine and the sine with such signs.
func withSigns(x [6]float64, c, s float64) [6]float64 {
	return [6]float64{c * x[0], c * x[1], s * x[2], s * x[3], c * x[4], s * x[5]}
}

func exchanged(x [6]float64) [6]float64 { return [6]float64{x[2], x[3], x[0], x[1], x[5], x[4]} }

// P5.3
func TestPartsThatHangTogether(t *testing.T) {
	for _, p := range allParts() {
		got := tell(p.k, p.n)
		if p.k > math.MinInt64 && tell(-p.k, p.n) != withSigns(got, 1, -1) {
			t.Errorf("of %v and the opposite: %x, %x", p, got, tell(-p.k, p.n))
		}
		for _, turn := range []int64{p.n, -p.n, 3 * p.n} {
			if further := p.k + turn; (further > p.k) == (turn > 0) && tell(further, p.n) != got {
				t.Errorf("of %v and %d further: %x, %x", p, turn, got, tell(further, p.n))
			}
		}
		if further := p.k + p.n/4; p.n%4 == 0 && further > p.k && tell(further, p.n) != withSigns(exchanged(got), -1, 1) {
			t.Errorf("of %v and a quarter further: %x, %x", p, got, tell(further, p.n))
		}
	}
}

// P5.3
func TestAnEighthHasCosineAndSineAlike(t *testing.T) {
	for _, n := range []int64{8, 16, 24, 56, 96, 1000, 1 << 20, 3 << 37, most - 8, most} {
		for _, turn := range []int64{0, n, -n} {
			got := tell(n/8+turn, n)
			if got != exchanged(got) || got[0] == 0 {
				t.Errorf("of an eighth of %d: %x", n, got)
			}
		}
	}
}

// Rule 8: the same whenever the same is asked.
func TestTheSameIsToldAgain(t *testing.T) {
	all := smallParts()
	first := make([][6]float64, len(all))
	for i, p := range all {
		first[i] = tell(p.k, p.n)
	}
	for i, p := range slices.Backward(all) {
		if again := tell(p.k, p.n); again != first[i] {
			t.Errorf("of %v first %x, then %x", p, first[i], again)
		}
	}
}

// The numbers that the tests hold to are what they are taken for.
func TestSeriesOfTheTests(t *testing.T) {
	for _, p := range smallParts() {
		c, s := cosSin(p.k, p.n)
		y, x := math.Sincos(2 * math.Pi * float64(remainder(p.k, p.n)) / float64(p.n))
		if differs(c, exactFloat(x), 0x1p-49) || differs(s, exactFloat(y), 0x1p-49) {
			t.Errorf("of %v: %v, %v", p, c, s)
		}
		one := precise().Add(precise().Mul(c, c), precise().Mul(s, s))
		if differs(one, exactFloat(1), 0x1p-300) {
			t.Errorf("of %v the squares' sum is %v", p, one)
		}
	}
}
