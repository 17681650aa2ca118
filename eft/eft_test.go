package eft

import (
	"math"
	"math/big"
	"math/rand/v2"
	"slices"
	"testing"
)

var minusZero = math.Copysign(0, -1)

// wild: floats that aren't mild: just beyond the mild ones, subnormal ones, the greatest, infinities, and what is no number.
var wild = []float64{
	math.Nextafter(0x1p-400, 0), 0x1p-401, 0x1.fffffffffffffp-402, 0x1p-1000, 0x1p-1022, math.Nextafter(0x1p-1022, 0), 0x1p-1073, math.SmallestNonzeroFloat64,
	math.Nextafter(0x1p400, math.Inf(1)), 0x1.8p400, 0x1p401, 0x1p1000, 0x1p1023, math.MaxFloat64, math.Inf(1), math.NaN(), math.Float64frombits(0x7ff0000000000001), math.Float64frombits(math.MaxUint64),
}

// mildEdges: 0, the least and the greatest of the mild floats, and those whose bits are hardest on a split: all set, none, every other, a tie at the cut.
var mildEdges = []float64{
	0, 1, 2, 3, 10, 0.1, 1.0 / 3, math.Pi, 1.5, 0x1p-60, 0x1p-52, 0x1p-53, 0x1p-54, 0x1.8p-53,
	0x1p-400, math.Nextafter(0x1p-400, 1), 0x1.8p-400, 0x1.fffffffffffffp-400, 0x1p-399, 0x1p400, math.Nextafter(0x1p400, 1), 0x1p399, 0x1.8p399,
	1<<53 - 1, 1 << 53, 1<<53 + 2, 1<<53 - 3, 1<<52 + 1, 1<<27 + 1, 1 << 27, 1<<27 - 1, 1<<26 + 1, 1<<26 - 1, 1<<54 - 2,
	1 + 0x1p-52, 1 - 0x1p-53, 2 - 0x1p-51, 0x1.fffffffffffffp100, 0x1.fffffffffffffp-100, 0x1.5555555555555p0, 0x1.aaaaaaaaaaaaap0, 0x1.5555555555555p-300, 0x1.aaaaaaaaaaaaap300,
	0x1.0000004p0, 0x1.0000002p0, 0x1.0000006p0, 0x1.0000001p0, 0x1.ffffffcp0, 0x1.ffffffep0, 0x1.0000003ffffffp0, 0x1.0000002000001p0, 0x1.0000001ffffffp0, 0x1.fffffff000001p0, 0x1.0000000ffffffp0,
}

// bothSigns: the numbers, and each with its sign turned; NaNs too have a sign.
func bothSigns(l []float64) []float64 {
	all := slices.Clone(l)
	for _, a := range l {
		all = append(all, -a)
	}
	return all
}

func chance() *rand.Rand { return rand.New(rand.NewPCG(1, 2)) }

// anyOf: a float of any 53 bits, either sign, and an exponent from least to most.
func anyOf(r *rand.Rand, least, most int) float64 {
	a := math.Ldexp(1+float64(r.Uint64()>>12)*0x1p-52, least+r.IntN(most-least+1))
	return math.Copysign(a, float64(r.IntN(2))-0.5)
}

// eachPair: all pairs of the edges, then pairs by chance: of any exponents, of near ones, and of neighbours, whose sums cancel.
func eachPair(try func(a, b float64)) {
	edges := bothSigns(mildEdges)
	for _, a := range edges {
		for _, b := range edges {
			try(a, b)
		}
	}
	r := chance()
	for range 20000 {
		a := anyOf(r, -400, 399)
		at := math.Ilogb(a)
		try(a, anyOf(r, -400, 399))
		try(a, anyOf(r, max(at-60, -400), min(at+60, 399)))
		try(a, anyOf(r, max(at-1, -400), min(at+1, 399)))
		try(a, -a)
		try(a, -math.Nextafter(a, 0x1p400))
	}
}

// exact: with so many bits that sums and products of two floats of these sizes, and of what they lack, are just.
func exact(a float64) *big.Float { return new(big.Float).SetPrec(4096).SetFloat64(a) }

func exactSum(a, b float64) *big.Float { return new(big.Float).Add(exact(a), exact(b)) }

func exactProd(a, b float64) *big.Float { return new(big.Float).Mul(exact(a), exact(b)) }

// nearest: the float nearest to a number; -0 stays -0.
func nearest(x *big.Float) float64 {
	a, _ := x.Float64()
	return a
}

// same: to the bit; but what is no number is any such.
func same(a, b float64) bool {
	return math.Float64bits(a) == math.Float64bits(b) || math.IsNaN(a) && math.IsNaN(b)
}

func finite(a float64) bool { return !math.IsNaN(a) && !math.IsInf(a, 0) }

// adds: do two floats make a number, without an error?
func adds(a, b float64, want *big.Float) bool {
	return finite(a) && finite(b) && exactSum(a, b).Cmp(want) == 0
}

// P3.1
func TestSum(t *testing.T) {
	for _, x := range [][4]float64{
		{1, 0x1p-60, 1, 0x1p-60}, {0x1p-60, 1, 1, 0x1p-60}, {-0x1p53, 1.5, -0x1p53 + 2, -0.5}, {1, 2, 3, 0}, {1, -1, 0, 0}, {0, 0, 0, 0},
		{1 << 53, 1, 1 << 53, 1}, {1<<53 + 2, 1, 1<<53 + 4, -1}, {1<<53 - 1, 1<<53 - 1, 1<<54 - 2, 0}, {0x1p400, 0x1p-400, 0x1p400, 0x1p-400}, {0x1p-400, -0x1p400, -0x1p400, 0x1p-400},
		{0.1, 0.2, 0.30000000000000004, -0x1p-55}, {1, -0x1.fffffffffffffp-1, 0x1p-53, 0}, {0x1p400, 0x1p400, 0x1p401, 0},
	} {
		if s, e := Sum(x[0], x[1]); s != x[2] || e != x[3] {
			t.Errorf("Sum(%x, %x) = %x, %x, not %x, %x", x[0], x[1], s, e, x[2], x[3])
		}
	}
}

func TestSumIsExact(t *testing.T) {
	eachPair(func(a, b float64) {
		s, e := Sum(a, b)
		if want := exactSum(a, b); !same(s, nearest(want)) || !adds(s, e, want) {
			t.Fatalf("Sum(%x, %x) = %x, %x", a, b, s, e)
		}
	})
}

// P3.1
func hasFewBits(a float64) bool {
	part, _ := math.Frexp(a)
	return finite(a) && part*0x1p27 == math.Trunc(part*0x1p27)
}

func TestSplit(t *testing.T) {
	check := func(a float64) {
		if hi, lo := Split(a); !hasFewBits(hi) || !hasFewBits(lo) || !adds(hi, lo, exact(a)) {
			t.Fatalf("Split(%x) = %x, %x", a, hi, lo)
		}
	}
	for _, a := range bothSigns(mildEdges) {
		check(a)
	}
	r := chance()
	for range 100000 {
		check(anyOf(r, -400, 399))
	}
	// Each power of two, and its neighbours, of which the greater has but its first bit and its last set, the lesser all bits.
	for k := -399; k < 400; k++ {
		power := math.Ldexp(1, k)
		check(power)
		check(math.Nextafter(power, 0))
		check(-math.Nextafter(power, 0x1p400))
	}
}

// The test of few bits itself: 27 of them are few, 28 are not, wherever they stand.
func TestFewBits(t *testing.T) {
	for _, scale := range []float64{1, 0x1p-400, 0x1p300, -0x1p-30} {
		for _, a := range []float64{0, 1, 1<<27 - 1, 1 << 27, 1<<26 + 1, 1<<28 - 2} {
			if !hasFewBits(a * scale) {
				t.Errorf("%x should have few bits", a*scale)
			}
		}
		for _, a := range []float64{1<<27 + 1, 1<<28 - 1, 1<<53 - 1, 1 + 0x1p-52} {
			if hasFewBits(a * scale) {
				t.Errorf("%x shouldn't have few bits", a*scale)
			}
		}
	}
}

// P3.1
func TestProd(t *testing.T) {
	for _, x := range [][4]float64{
		{1<<53 - 1, 1<<53 - 1, 0x1p106 - 0x1p54, 1}, {0.1, 10, 1, 0x1p-54}, {2, 3, 6, 0}, {0, 5, 0, 0}, {-1, 1, -1, 0}, {1 + 0x1p-52, 1 - 0x1p-52, 1, -0x1p-104}, {1<<27 + 1, 1<<27 + 1, 1<<54 + 1<<28, 1},
		{0x1p400, 0x1p400, 0x1p800, 0}, {0x1p-400, 0x1p-400, 0x1p-800, 0}, {0x1p400, -0x1p-400, -1, 0}, {0x1.0000000000001p-400, 0x1.0000000000001p-400, 0x1.0000000000002p-800, 0x1p-904},
	} {
		if p, e := Prod(x[0], x[1]); p != x[2] || e != x[3] {
			t.Errorf("Prod(%x, %x) = %x, %x, not %x, %x", x[0], x[1], p, e, x[2], x[3])
		}
	}
}

func TestProdIsExact(t *testing.T) {
	eachPair(func(a, b float64) {
		p, e := Prod(a, b)
		if want := exactProd(a, b); !same(p, nearest(want)) || !adds(p, e, want) {
			t.Fatalf("Prod(%x, %x) = %x, %x", a, b, p, e)
		}
	})
}

// P1: of floats that aren't mild any result will do, but the same one whenever the same is asked (rule 8).
func TestWildFloatsEnd(t *testing.T) {
	all := bothSigns(slices.Concat(wild, mildEdges))
	tell := func(a, b float64) [6]float64 {
		s, lacksOfSum := Sum(a, b)
		hi, lo := Split(a)
		p, lacksOfProd := Prod(a, b)
		return [6]float64{s, lacksOfSum, hi, lo, p, lacksOfProd}
	}
	for _, a := range all {
		for _, b := range all {
			first := tell(a, b)
			tell(b, a)
			if again := tell(a, b); !slices.EqualFunc(first[:], again[:], same) {
				t.Errorf("of %x and %x first %x, then %x", a, b, first, again)
			}
		}
	}
}

// P3.2
func TestMild(t *testing.T) {
	for _, a := range bothSigns(mildEdges) {
		if !Mild(a) {
			t.Errorf("Mild(%x) = false", a)
		}
	}
	for _, a := range bothSigns(wild) {
		if Mild(a) {
			t.Errorf("Mild(%x) = true", a)
		}
	}
	for k := -1074; k <= 1023; k++ {
		if got, want := Mild(math.Ldexp(1, k)), k >= -400 && k <= 400; got != want {
			t.Errorf("Mild(2^%d) = %v", k, got)
		}
		if got, want := Mild(math.Ldexp(-1.25, k)), k >= -400 && k < 400; got != want {
			t.Errorf("Mild(-1.25·2^%d) = %v", k, got)
		}
	}
}

// P3.3
func TestScale(t *testing.T) {
	inf, least := math.Inf(1), math.SmallestNonzeroFloat64
	for _, x := range []struct {
		a    float64
		k    int
		want float64
	}{
		{1, 0, 1}, {3, 2, 12}, {-3, -1, -1.5}, {0.1, 3, 0.8}, {math.MaxFloat64, 0, math.MaxFloat64}, {least, 0, least},
		// Subnormal results: the nearer one, of two as near the one whose last bit is 0.
		{3, -1076, least}, {1, -1074, least}, {1, -1075, 0}, {-1, -1075, minusZero}, {math.Nextafter(1, 2), -1075, least}, {math.Nextafter(1, 0), -1074, least}, {math.Nextafter(1, 0), -1075, 0},
		{3, -1075, 2 * least}, {5, -1075, 2 * least}, {7, -1075, 4 * least}, {5, -1076, least}, {7, -1076, 2 * least}, {2.5, -1074, 2 * least}, {math.Nextafter(2.5, 3), -1074, 3 * least}, {math.Nextafter(2.5, 2), -1074, 2 * least},
		{0x1.fffffffffffffp-1, -1022, 0x1p-1022}, {0x1.fffffffffffffp-1, -1021, 0x1.fffffffffffffp-1022}, {-0x1.ffffffffffffep-1, -1022, -0x0.fffffffffffffp-1022},
		{least, -1, 0}, {3 * least, -1, 2 * least}, {5 * least, -1, 2 * least}, {-least, -1, minusZero}, {least, -2, 0}, {0x1p-1022, -52, least}, {0x1p-1022, -53, 0}, {0x1.0000000000001p-1022, -53, least},
		{math.MaxFloat64, -2098, least}, {0x1p1023, -2098, 0}, {math.MaxFloat64, -2099, 0}, {0x1p1023, -2097, least}, {0x1.8p1023, -2098, least}, {-0x1.8p1023, -2097, -2 * least}, {0x1p1023, -1023, 1}, {math.MaxFloat64, -1024, 0x1.fffffffffffffp-1},
		// Across all the floats, and over.
		{least, 1074, 1}, {least, 2097, 0x1p1023}, {least, 2098, inf}, {-least, 2098, -inf}, {3 * least, 2096, 0x1.8p1023}, {3 * least, 2097, inf}, {1, 1023, 0x1p1023}, {1, 1024, inf}, {-1, 1024, -inf}, {0x1.fffffffffffffp0, 1023, math.MaxFloat64}, {math.MaxFloat64, 1, inf}, {-math.MaxFloat64, 1, -inf}, {0x1p-1022, 2045, 0x1p1023}, {0x1p-1022, 2046, inf},
	} {
		if got := Scale(x.a, x.k); !same(got, x.want) {
			t.Errorf("Scale(%x, %d) = %x, not %x", x.a, x.k, got, x.want)
		}
	}
}

// farExponents: beyond every float's, and those at which an exponent that is added to would pass over the int's end.
var farExponents = []int{
	2099, 2100, 2101, 2147, 4000, 4196, 99999, 1 << 30, math.MaxInt32 - 1, math.MaxInt32, math.MaxInt32 + 1, 1 << 32, 1<<32 + 1, 1 << 62, math.MaxInt - 1074, math.MaxInt - 1023, math.MaxInt - 1, math.MaxInt,
}

func TestScaleByFarExponents(t *testing.T) {
	for _, a := range []float64{math.SmallestNonzeroFloat64, 0x1p-1022, 0x1p-400, 1, 0x1.fffffffffffffp0, 0x1p1000, 0x1p1023, math.MaxFloat64} {
		for _, k := range farExponents {
			if got := Scale(a, k); !same(got, math.Inf(1)) {
				t.Errorf("Scale(%x, %d) = %x", a, k, got)
			}
			if got := Scale(-a, k); !same(got, math.Inf(-1)) {
				t.Errorf("Scale(%x, %d) = %x", -a, k, got)
			}
			// -k - 1 goes down to the least int.
			if got := Scale(a, -k-1); !same(got, 0) {
				t.Errorf("Scale(%x, %d) = %x", a, -k-1, got)
			}
			if got := Scale(-a, -k-1); !same(got, minusZero) {
				t.Errorf("Scale(%x, %d) = %x", -a, -k-1, got)
			}
		}
	}
}

// Noughts, infinities and what is no number stay what they are, by every exponent.
func TestScaleLeavesNoughtsAndInfinities(t *testing.T) {
	try := func(k int) {
		for _, a := range []float64{0, minusZero, math.Inf(1), math.Inf(-1), math.NaN(), -math.NaN(), math.Float64frombits(0x7ff0000000000001)} {
			if got := Scale(a, k); !same(got, a) {
				t.Errorf("Scale(%x, %d) = %x", a, k, got)
			}
		}
	}
	for k := -3000; k <= 3000; k++ {
		try(k)
	}
	for _, k := range farExponents {
		try(k)
		try(-k)
		try(-k - 1)
	}
}

func TestScaleIsNearest(t *testing.T) {
	check := func(a float64, k int) {
		want := nearest(new(big.Float).SetMantExp(exact(a), k))
		if got := Scale(a, k); !same(got, want) {
			t.Fatalf("Scale(%x, %d) = %x, not %x", a, k, got, want)
		}
	}
	all := bothSigns(slices.Concat([]float64{1, 3, 5, 7, 0.1, 0x1.fffffffffffffp0, 0x1.0000000000001p0, 0x1.5555555555555p0, 0x1.8p52, 0x1p400, 0x1p-400, 0x1.8p-1073}, wild[:14]))
	for _, a := range all {
		for k := -2300; k <= 2300; k++ {
			check(a, k)
		}
	}
	r := chance()
	for range 100000 {
		a := anyOf(r, -1074, 1023)
		check(a, r.IntN(4400)-2200)
		// To the subnormal ones, where all is rounded.
		check(a, -1022-math.Ilogb(a)-r.IntN(56))
	}
}

// topByItsWords: by trying all whole numbers; of 1024 the power is above every float.
func topByItsWords(l []float64) int {
	for k := -1074; ; k++ {
		if !slices.ContainsFunc(l, func(a float64) bool { return math.Abs(a) >= math.Ldexp(1, k) }) {
			return k
		}
	}
}

func checkTop(t *testing.T, want int, l ...float64) {
	t.Helper()
	if got, ok := Top(l); got != want || !ok {
		t.Errorf("Top(%x) = %d, %v, not %d", l, got, ok, want)
	}
}

// P3.4
func TestTop(t *testing.T) {
	checkTop(t, -1074)
	if got, ok := Top([]float64{}); got != -1074 || !ok {
		t.Errorf("of an empty list %d, %v", got, ok)
	}
	checkTop(t, -1074, 0)
	checkTop(t, -1074, minusZero)
	checkTop(t, -1074, 0, minusZero, 0)
	checkTop(t, 3, 3, -4)
	checkTop(t, 3, -4, 3)
	checkTop(t, 2, 3, -3, 2)
	checkTop(t, 1, 0, 1, 0)
	checkTop(t, 0, 0.5)
	checkTop(t, -1, -0.25, 0.1)
	checkTop(t, 1024, math.MaxFloat64)
	checkTop(t, 1024, 1, -math.MaxFloat64, 1)
	checkTop(t, 1024, math.MaxFloat64, math.MaxFloat64, -math.MaxFloat64)
	checkTop(t, -1073, math.SmallestNonzeroFloat64)
	checkTop(t, -1073, 0, -math.SmallestNonzeroFloat64)
	checkTop(t, 1, math.SmallestNonzeroFloat64, 1)
}

func TestTopAtPowers(t *testing.T) {
	for k := -1074; k <= 1023; k++ {
		power := math.Ldexp(1, k)
		checkTop(t, k+1, power)
		checkTop(t, k+1, -power)
		checkTop(t, k, math.Nextafter(power, 0))
		checkTop(t, k, -math.Nextafter(power, 0))
		checkTop(t, k+1, power, math.Nextafter(power, 0))
		if k > -1074 {
			checkTop(t, k+1, math.Nextafter(power, math.Inf(1)))
		}
	}
}

func TestTopByItsWords(t *testing.T) {
	r := chance()
	for range 2000 {
		l := make([]float64, r.IntN(6))
		from := r.IntN(2090) - 1074
		for i := range l {
			l[i] = anyOf(r, from, from+6)
		}
		checkTop(t, topByItsWords(l), l...)
	}
}

// Wherever it stands, one that isn't finite leaves nothing to be told.
func TestTopOfWhatIsNotFinite(t *testing.T) {
	for _, a := range []float64{math.Inf(1), math.Inf(-1), math.NaN(), -math.NaN(), math.Float64frombits(0x7ff0000000000001)} {
		for _, l := range [][]float64{{a}, {a, 1}, {1, a}, {0, a, 0}, {math.MaxFloat64, 1, a}, {a, a}, {a, math.MaxFloat64}, {math.Inf(1), a, 3}, {a, math.NaN()}} {
			if k, ok := Top(l); k != 0 || ok {
				t.Errorf("Top(%x) = %d, %v", l, k, ok)
			}
		}
	}
}

// Rule 4: what is handed in stays as it is, and what lies behind the list's length isn't read.
func TestTopLeavesTheList(t *testing.T) {
	l := []float64{3, -4, 0.5, minusZero, math.NaN(), 0x1p900}
	before := slices.Clone(l)
	if k, ok := Top(l[:4]); k != 3 || !ok {
		t.Errorf("%d, %v", k, ok)
	}
	if !slices.EqualFunc(l, before, same) {
		t.Errorf("%x became %x", before, l)
	}
}
