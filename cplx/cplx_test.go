package cplx

import (
	"math"
	"math/big"
	"math/rand/v2"
	"slices"
	"testing"

	"diapason/api"
)

var (
	minusZero = math.Copysign(0, -1)
	inf       = math.Inf(1)
	none      = math.NaN()
)

// edges: floats at which a sum or a product is rounded, cancels, goes over, goes under, or is no number.
var edges = []float64{
	0, minusZero, 1, -1, 3, -0.1, 1 + 0x1p-30, 1 - 0x1p-30, -1 - 0x1p-52, 0x1p-53, 0x1p-1074, -0x1p-1074, 0x1.8p-1022, 0x1p-540, -0x1p900, 0x1p600, math.MaxFloat64, -math.MaxFloat64, inf, -inf, none,
}

func sameFloat(a, b float64) bool {
	return math.Float64bits(a) == math.Float64bits(b) || math.IsNaN(a) && math.IsNaN(b)
}

// same: both parts to the bit; but what is no number is any such.
func same(a, b C) bool { return sameFloat(a.Re, b.Re) && sameFloat(a.Im, b.Im) }

func finite(l ...float64) bool {
	return !slices.ContainsFunc(l, func(a float64) bool { return math.IsNaN(a) || math.IsInf(a, 0) })
}

// exact: with so many bits that the sum and the product of any two floats are just.
func exact(a float64) *big.Float { return new(big.Float).SetPrec(4300).SetFloat64(a) }

func nearest(x *big.Float) float64 {
	a, _ := x.Float64()
	return a
}

// sum, difference and product: the nearest floats, each by itself; of what isn't finite what the language says.
func sum(a, b float64) float64 {
	if !finite(a, b) {
		return a + b
	}
	return nearest(new(big.Float).Add(exact(a), exact(b)))
}

func difference(a, b float64) float64 { return sum(a, -b) }

func product(a, b float64) float64 {
	if !finite(a, b) {
		return float64(a * b)
	}
	return nearest(new(big.Float).Mul(exact(a), exact(b)))
}

func chance() *rand.Rand { return rand.New(rand.NewPCG(1, 2)) }

// anyBits: any float whatever, what isn't finite too.
func anyBits(r *rand.Rand) float64 { return math.Float64frombits(r.Uint64()) }

// near: a float of either sign and of magnitude 1 to 2, so that sums often cancel.
func near(r *rand.Rand) float64 {
	return math.Copysign(1+float64(r.Uint64()>>12)*0x1p-52, float64(r.IntN(2))-0.5)
}

// eachPair: pairs of numbers made of all the edges, then by chance: of any bits, of near parts, and of parts that are the products' own.
func eachPair(try func(a, b C)) {
	for _, w := range edges {
		for _, x := range edges {
			for i, y := range edges {
				// All threes of parts that meet are tried; the fourth goes along.
				try(C{w, x}, C{y, edges[(i+7)%len(edges)]})
				try(C{w, edges[(i+7)%len(edges)]}, C{x, y})
			}
		}
	}
	r := chance()
	for range 20000 {
		try(C{anyBits(r), anyBits(r)}, C{anyBits(r), anyBits(r)})
		a, b := C{near(r), near(r)}, C{near(r), near(r)}
		try(a, b)
		// Squares and conjugates: there the products cancel but for what rounding leaves.
		try(a, a)
		try(a, C{a.Re, -a.Im})
		try(a, C{a.Im, a.Re})
		try(a, C{a.Im, -a.Re})
		try(a, C{-a.Re, b.Im})
	}
}

// P6.1
func TestSumAndDifference(t *testing.T) {
	for _, x := range []struct{ a, b, sum, difference C }{
		{C{1, 2}, C{3, 4}, C{4, 6}, C{-2, -2}},
		{C{0.1, 1}, C{0.2, 0x1p-60}, C{0.30000000000000004, 1}, C{-0.1, 1}},
		{C{0, minusZero}, C{minusZero, minusZero}, C{0, minusZero}, C{0, 0}},
		{C{minusZero, 1}, C{0, 1}, C{0, 2}, C{minusZero, 0}},
		{C{math.MaxFloat64, 5}, C{math.MaxFloat64, -5}, C{inf, 0}, C{0, 10}},
		{C{inf, inf}, C{-inf, 1}, C{none, inf}, C{inf, inf}},
		{C{1, none}, C{1, 1}, C{2, none}, C{0, none}},
		{C{0x1p-1074, 0x1p-1022}, C{0x1p-1074, -0x1.8p-1022}, C{0x1p-1073, -0x1p-1023}, C{0, 0x1.4p-1021}},
	} {
		if got := x.a.Add(x.b); !same(got, x.sum) {
			t.Errorf("%x plus %x is %x, not %x", x.a, x.b, got, x.sum)
		}
		if got := x.a.Sub(x.b); !same(got, x.difference) {
			t.Errorf("%x less %x is %x, not %x", x.a, x.b, got, x.difference)
		}
	}
}

func TestSumAndDifferenceAreRoundedPartByPart(t *testing.T) {
	eachPair(func(a, b C) {
		if got, want := a.Add(b), (C{sum(a.Re, b.Re), sum(a.Im, b.Im)}); !same(got, want) {
			t.Fatalf("%x plus %x is %x, not %x", a, b, got, want)
		}
		if got, want := a.Sub(b), (C{difference(a.Re, b.Re), difference(a.Im, b.Im)}); !same(got, want) {
			t.Fatalf("%x less %x is %x, not %x", a, b, got, want)
		}
	})
}

// P6.1
func TestProduct(t *testing.T) {
	const above, below = 1 + 0x1p-30, 1 - 0x1p-30
	for _, x := range []struct{ a, b, want C }{
		{C{1, 2}, C{3, 4}, C{-5, 10}}, {C{3, 4}, C{1, 2}, C{-5, 10}}, {C{0, 1}, C{0, 1}, C{-1, 0}}, {C{5, -7}, C{1, 0}, C{5, -7}},
		// Each product is rounded by itself: fused with the other, it would leave 2^-60.
		{C{above, 1}, C{below, 1}, C{0, 2}}, {C{1, above}, C{1, below}, C{0, 2}}, {C{above, 1}, C{-1, below}, C{-above - below, 0}}, {C{-1, above}, C{below, 1}, C{-2, 0}},
		// Four products, not three: of these sums of parts nothing would be left, or an infinity.
		{C{0x1p60, 1}, C{1, 0x1p-60}, C{0x1p60, 2}}, {C{math.MaxFloat64, math.MaxFloat64}, C{0.5, 0.5}, C{0, math.MaxFloat64}},
		{C{0, 0}, C{0, 0}, C{0, 0}}, {C{minusZero, 0}, C{1, 0}, C{minusZero, 0}}, {C{0, minusZero}, C{1, minusZero}, C{0, minusZero}}, {C{minusZero, 0}, C{0, minusZero}, C{0, 0}},
		{C{inf, 0}, C{1, 0}, C{inf, none}}, {C{inf, 1}, C{1, 1}, C{inf, inf}}, {C{1, none}, C{0, 0}, C{none, none}}, {C{0x1p600, 0}, C{0x1p600, 0}, C{inf, 0}}, {C{0x1p600, 0x1p600}, C{0x1p600, 0x1p600}, C{none, inf}},
		{C{0x1p-540, 0}, C{0x1p-534, 0x1p-540}, C{0x1p-1074, 0}}, {C{0x1p-540, 0}, C{0x1.8p-535, -0x1p-600}, C{0x1p-1074, 0}},
	} {
		if got := x.a.Mul(x.b); !same(got, x.want) {
			t.Errorf("%x times %x is %x, not %x", x.a, x.b, got, x.want)
		}
	}
}

func TestProductIsRoundedStepByStep(t *testing.T) {
	eachPair(func(a, b C) {
		want := C{
			difference(product(a.Re, b.Re), product(a.Im, b.Im)),
			sum(product(a.Re, b.Im), product(a.Im, b.Re)),
		}
		if got := a.Mul(b); !same(got, want) {
			t.Fatalf("%x times %x is %x, not %x", a, b, got, want)
		}
	})
}

// opposite: with its first bit turned, which is its sign.
func opposite(a float64) float64 { return math.Float64frombits(math.Float64bits(a) ^ 1<<63) }

func eachNumber(try func(a C)) {
	for _, x := range edges {
		for _, y := range edges {
			try(C{x, y})
		}
	}
	r := chance()
	for range 2000 {
		try(C{anyBits(r), anyBits(r)})
	}
}

// P6.1
func TestConj(t *testing.T) {
	if got := (C{1, 2}).Conj(); got != (C{1, -2}) {
		t.Errorf("of {1, 2}: %v", got)
	}
	if got := (C{minusZero, 0}).Conj(); !same(got, C{minusZero, minusZero}) {
		t.Errorf("of {-0, 0}: %v", got)
	}
	eachNumber(func(a C) {
		if got, want := a.Conj(), (C{a.Re, opposite(a.Im)}); !same(got, want) {
			t.Fatalf("of %x: %x, not %x", a, got, want)
		}
	})
}

// P6.1
func TestTurn(t *testing.T) {
	turned := func(a C) [4]C {
		return [4]C{a, {opposite(a.Im), a.Re}, {opposite(a.Re), opposite(a.Im)}, {a.Im, opposite(a.Re)}}
	}
	if want := [4]C{{1, 2}, {-2, 1}, {-1, -2}, {2, -1}}; turned(C{1, 2}) != want {
		t.Fatalf("the test takes %v for the turns of {1, 2}", turned(C{1, 2}))
	}
	// The remainders by 4, told by hand at both ends of the ints.
	remainders := map[int]int{math.MinInt: 0, math.MinInt + 1: 1, math.MinInt + 2: 2, math.MinInt + 3: 3, math.MaxInt: 3, math.MaxInt - 1: 2, math.MaxInt - 2: 1, math.MaxInt - 3: 0, math.MinInt32: 0, math.MaxInt32: 3, -5: 3, -1: 3, -2: 2, -3: 1, -4: 0}
	for k := range 40 {
		remainders[k] = k % 4
		remainders[k-40] = k % 4
	}
	eachNumber(func(a C) {
		want := turned(a)
		for quarters, r := range remainders {
			if got := a.Turn(quarters); !same(got, want[r]) {
				t.Fatalf("%x by %d quarters is %x, not %x", a, quarters, got, want[r])
			}
		}
	})
}

// allowed and refused: magnitudes of parts that Guard lets pass, and that it doesn't.
var (
	allowed = []float64{0, 1, 0.1, 0x1p-1074, 0x1p-1022, 0x1p400, 0x1p899, math.Nextafter(0x1p900, 0), 0x1p900}
	refused = []float64{math.Nextafter(0x1p900, inf), 0x1.1p900, 0x1p901, math.MaxFloat64, inf, none, math.Float64frombits(0x7ff0000000000001)}
)

func checkGuard(t *testing.T, wantAt int, want api.Errno, l ...C) {
	t.Helper()
	if at, e := Guard(l); at != wantAt || e != want {
		t.Errorf("of %x: %d, %d, not %d, %d", l, at, e, wantAt, want)
	}
}

// P6.2
func TestGuardLetsPass(t *testing.T) {
	checkGuard(t, 0, api.OK)
	checkGuard(t, 0, api.OK, []C{}...)
	checkGuard(t, 0, api.OK, C{1, 2}, C{0x1p900, 0}, C{0, -0x1p900}, C{minusZero, 0})
	// The parts count, not the number's own magnitude.
	checkGuard(t, 0, api.OK, C{0x1p900, 0x1p900}, C{-0x1p900, -0x1p900})
	for _, x := range allowed {
		for _, y := range allowed {
			checkGuard(t, 0, api.OK, C{x, y}, C{-x, y}, C{x, -y}, C{-x, -y})
		}
	}
	checkGuard(t, 0, api.OK, make([]C, 1<<16)...)
}

// P6.2
func TestGuardTellsTheFirstPlace(t *testing.T) {
	checkGuard(t, 0, api.ErrValue, C{none, 0})
	checkGuard(t, 2, api.ErrValue, C{1, 2}, C{3, 4}, C{0, -inf})
	for _, bad := range refused {
		for _, fault := range []C{{bad, 0}, {0, bad}, {-bad, 1}, {1, -bad}, {bad, bad}, {bad, 0x1p900}, {-0x1p900, bad}} {
			for size := 1; size <= 9; size++ {
				for at := range size {
					l := make([]C, size)
					l[at] = fault
					checkGuard(t, at, api.ErrValue, l...)
					for later := at + 1; later < size; later++ {
						l[later] = C{inf, none}
					}
					checkGuard(t, at, api.ErrValue, l...)
				}
			}
		}
	}
	long := make([]C, 1<<16)
	long[len(long)-1].Im = none
	if at, e := Guard(long); at != len(long)-1 || e != api.ErrValue {
		t.Errorf("of a long list: %d, %d", at, e)
	}
}

// Rule 4: what is handed in stays as it is, and what lies behind the list's length isn't read.
func TestGuardLeavesTheList(t *testing.T) {
	l := []C{{1, minusZero}, {2, 3}, {none, inf}, {5, 6}}
	before := slices.Clone(l)
	if at, e := Guard(l[:2]); at != 0 || e != api.OK {
		t.Errorf("%d, %d", at, e)
	}
	checkGuard(t, 2, api.ErrValue, l...)
	if !slices.EqualFunc(l, before, same) {
		t.Errorf("%x became %x", before, l)
	}
}

// P6.3
func TestPairs(t *testing.T) {
	l, e := Pairs([]float64{1, 3, 5}, []float64{2, 4, 6})
	if want := []C{{1, 2}, {3, 4}, {5, 6}}; e != api.OK || !slices.Equal(l, want) {
		t.Errorf("%v, %d", l, e)
	}
	for _, x := range [][2][]float64{{nil, nil}, {{}, nil}, {nil, {}}, {{}, {}}} {
		if l, e := Pairs(x[0], x[1]); len(l) != 0 || e != api.OK {
			t.Errorf("of empty lists: %v, %d", l, e)
		}
	}
	for _, x := range [][2][]float64{{{1}, nil}, {nil, {1}}, {{1, 2}, {1}}, {{1}, {1, 2}}, {{}, {none}}, {make([]float64, 100), make([]float64, 99)}} {
		if l, e := Pairs(x[0], x[1]); len(l) != 0 || e != api.ErrLen {
			t.Errorf("of lengths %d and %d: %v, %d", len(x[0]), len(x[1]), l, e)
		}
	}
}

// P6.3
func TestParts(t *testing.T) {
	re, im := Parts([]C{{1, 2}, {3, 4}, {5, 6}})
	if !slices.Equal(re, []float64{1, 3, 5}) || !slices.Equal(im, []float64{2, 4, 6}) {
		t.Errorf("%v, %v", re, im)
	}
	for _, l := range [][]C{nil, {}} {
		if re, im := Parts(l); len(re) != 0 || len(im) != 0 {
			t.Errorf("of an empty list: %v, %v", re, im)
		}
	}
}

// P6.3: bit by bit, whatever the floats are, there and back.
func TestPartsOfPairs(t *testing.T) {
	r := chance()
	for size := range 300 {
		re, im := make([]float64, size), make([]float64, size)
		for i := range size {
			re[i], im[i] = edges[r.IntN(len(edges))], anyBits(r)
		}
		l, e := Pairs(re, im)
		if e != api.OK || len(l) != size {
			t.Fatalf("of %d: %d numbers, %d", size, len(l), e)
		}
		for i, a := range l {
			if !same(a, C{re[i], im[i]}) {
				t.Fatalf("number %d of %x, %x is %x", i, re, im, a)
			}
		}
		gotRe, gotIm := Parts(l)
		if !slices.EqualFunc(gotRe, re, sameFloat) || !slices.EqualFunc(gotIm, im, sameFloat) {
			t.Fatalf("of %x, %x: %x, %x", re, im, gotRe, gotIm)
		}
	}
}

// P6.3, rule 4: the lists are new ones, and what lies behind a list's length is left alone.
func TestListsAreNew(t *testing.T) {
	re, im := []float64{1, 3, 7}, []float64{2, 4, 8}
	l, _ := Pairs(re[:2], im[:2])
	l[0] = C{-1, -2}
	l = append(l, C{9, 9})
	if !slices.Equal(re, []float64{1, 3, 7}) || !slices.Equal(im, []float64{2, 4, 8}) {
		t.Errorf("the parts became %v, %v", re, im)
	}
	re[1] = 10
	if want := []C{{-1, -2}, {3, 4}, {9, 9}}; !slices.Equal(l, want) {
		t.Errorf("the numbers became %v", l)
	}

	l = []C{{1, 2}, {3, 4}, {7, 8}}
	re, im = Parts(l[:2])
	re[0], im[1] = -1, -4
	// What is laid behind the one comes to stand in the other, if they share memory.
	longerRe, longerIm := append(re, 5), append(im, 6)
	if !slices.Equal(re, []float64{-1, 3}) || !slices.Equal(im, []float64{2, -4}) || longerRe[2] != 5 || longerIm[2] != 6 {
		t.Errorf("the parts became %v, %v", re, im)
	}
	if want := []C{{1, 2}, {3, 4}, {7, 8}}; !slices.Equal(l, want) {
		t.Errorf("the numbers became %v", l)
	}
}
