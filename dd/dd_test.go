package dd

import (
	"math"
	"math/big"
	"math/rand/v2"
	"slices"
	"testing"
)

// precise: with so many bits that sums and products of numbers, down to those of the least floats, are just.
func precise() *big.Float { return new(big.Float).SetPrec(4096) }

func exactFloat(a float64) *big.Float { return precise().SetFloat64(a) }

func exact(a Num) *big.Float { return precise().Add(exactFloat(a.Hi), exactFloat(a.Lo)) }

func add(a, b *big.Float) *big.Float { return precise().Add(a, b) }

func mul(a, b *big.Float) *big.Float { return precise().Mul(a, b) }

func magnitude(a *big.Float) *big.Float { return precise().Abs(a) }

func finite(a float64) bool { return !math.IsNaN(a) && !math.IsInf(a, 0) }

// isNeat: is the high float the one nearest to the number?
func isNeat(a Num) bool {
	if !finite(a.Hi) || !finite(a.Lo) {
		return false
	}
	nearest, _ := exact(a).Float64()
	return nearest == a.Hi
}

func isTame(a Num) bool {
	hi, lo := math.Abs(a.Hi), math.Abs(a.Lo)
	return isNeat(a) && (hi == 0 || hi >= 0x1p-150 && hi <= 0x1p150) && (lo == 0 || lo >= 0x1p-400)
}

// isTiny: is it a neat number that counts as tame in some calls?
func isTiny(a Num) bool { return isNeat(a) && math.Abs(a.Hi) < 0x1p-150 }

// differs: is a number further from another than a bound?
func differs(got Num, want, by *big.Float) bool {
	return magnitude(precise().Sub(exact(got), want)).Cmp(by) > 0
}

// lowEdges: for a high float, what may stand below it: nothing, the least, the half of its last bit, its neighbours, and such as leave bits out between.
func lowEdges(hi float64) []float64 {
	half := (math.Nextafter(hi, math.Inf(1)) - hi) / 2
	return []float64{
		0, half, -half, math.Nextafter(half, 0), -math.Nextafter(half, 0), half / 2, -half / 2, math.Nextafter(-half/2, 0), half / 3, hi * 0x1p-60, hi * -0x1.8p-70, hi * 0x1p-92, hi * 0x1p-96, hi * 0x1.5555555555555p-106, hi * 0x1p-240,
		0x1p-400, -0x1p-400, math.Nextafter(0x1p-400, 1),
	}
}

// withHigh: the numbers of such high floats and either sign, with all that may stand below, as far as they are of the kind.
func withHigh(high []float64, kind func(Num) bool) []Num {
	var l []Num
	for _, hi := range high {
		for _, lo := range lowEdges(hi) {
			if a := (Num{hi, lo}); kind(a) {
				l = append(l, a, Num{-hi, -lo})
			}
		}
	}
	return l
}

// tameEdges: the least, the greatest, and such whose bits are all set, none, or every other.
func tameEdges() []Num {
	return withHigh([]float64{
		0, 1, 2, 3, 1.0 / 3, 0.1, math.Pi, 1 + 0x1p-52, 1 - 0x1p-53, 2 - 0x1p-52, 0x1.5555555555555p0, 1<<27 + 1, 0x1.fffffffffffffp60, 0x1p-60,
		0x1p-150, math.Nextafter(0x1p-150, 1), 0x1.fffffffffffffp-150, 0x1p-149, 0x1p150, math.Nextafter(0x1p150, 0), 0x1.8p149,
	}, isTame)
}

// tinyEdges: neat numbers that are too small to be tame, down to the least floats.
func tinyEdges() []Num {
	return withHigh([]float64{
		math.Nextafter(0x1p-150, 0), 0x1p-151, 0x1.8p-200, 0x1.fffffffffffffp-201, 0x1p-300, 0x1.5555555555555p-348, math.Nextafter(0x1p-400, 1), 0x1p-400, math.Nextafter(0x1p-400, 0), 0x1p-500,
		0x1p-1000, 0x1p-1022, math.Nextafter(0x1p-1022, 0), 0x1p-1073, math.SmallestNonzeroFloat64,
	}, isTiny)
}

// wild: numbers that no promise speaks of, but that none panics.
func wild() []Num {
	inf, most := math.Inf(1), math.MaxFloat64
	l := []Num{{inf, 0}, {inf, math.NaN()}, {math.NaN(), 0}, {1, math.NaN()}, {0, inf}, {inf, -inf}, {most, 0}, {most, most}, {most, 0x1p969}, {0x1p1023, 0x1p-1074}, {0x1p200, 0}, {0x1p300, 1}, {0x1p401, 0x1p340}, {1, 1}, {1, -1}, {0x1p-60, 1}, {0, 1}, {0, 0x1p-1074}, {1, 0x1p-401}, {1, 0x1p-1074}}
	for _, a := range slices.Clone(l) {
		l = append(l, Num{-a.Hi, -a.Lo})
	}
	return l
}

func chance() *rand.Rand { return rand.New(rand.NewPCG(1, 2)) }

// anyFloat: a float of any 53 bits, either sign, and an exponent from least to most.
func anyFloat(r *rand.Rand, least, most int) float64 {
	a := math.Ldexp(1+float64(r.Uint64()>>12)*0x1p-52, least+r.IntN(most-least+1))
	return math.Copysign(a, float64(r.IntN(2))-0.5)
}

// anyTame: a tame number whose magnitude's exponent is from least to most.
func anyTame(r *rand.Rand, least, most int) Num {
	hi := anyFloat(r, least, most)
	for {
		at := math.Ilogb(hi) - 53
		lo := anyFloat(r, max(at-r.IntN(60), -400), at)
		if a := (Num{hi, lo}); isTame(a) {
			return a
		}
	}
}

// eachPair: all pairs of the edges, then pairs by chance: of any sizes, of near ones, and of such whose sums cancel.
func eachPair(try func(a, b Num)) {
	edges := tameEdges()
	for _, a := range edges {
		for _, b := range edges {
			try(a, b)
		}
	}
	r := chance()
	for range 10000 {
		a := anyTame(r, -150, 149)
		at := math.Ilogb(a.Hi)
		try(a, anyTame(r, -150, 149))
		try(a, anyTame(r, max(at-110, -150), min(at+110, 149)))
		try(a, anyTame(r, max(at-1, -150), min(at+1, 149)))
		for _, b := range []Num{{-a.Hi, -a.Lo}, {-a.Hi, a.Lo}, {-a.Hi, a.Lo / -2}, {-math.Nextafter(a.Hi, 0), a.Lo}, {-a.Hi, 0}} {
			if isTame(b) {
				try(a, b)
				try(b, a)
			}
		}
	}
}

// P4.1
func TestNew(t *testing.T) {
	for _, x := range [][4]float64{
		{1, 0x1p-60, 1, 0x1p-60}, {0x1p-60, 1, 1, 0x1p-60}, {0, 0, 0, 0}, {1, 2, 3, 0}, {1, -1, 0, 0}, {-0x1p53, 1.5, -0x1p53 + 2, -0.5}, {1 << 53, 1, 1 << 53, 1}, {1<<53 + 2, 1, 1<<53 + 4, -1}, {0.1, 0.2, 0.30000000000000004, -0x1p-55},
		{1, -0x1p-54, 1, -0x1p-54}, {0x1p400, 0x1p-400, 0x1p400, 0x1p-400}, {0x1p-400, -0x1p400, -0x1p400, 0x1p-400}, {0x1p-400, 0x1p-400, 0x1p-399, 0}, {0x1.0000000000001p-400, -0x1p-400, 0x1p-452, 0}, {0x1p400, 0x1p400, 0x1p401, 0},
	} {
		if got := New(x[0], x[1]); got != (Num{x[2], x[3]}) {
			t.Errorf("New(%x, %x) = %x", x[0], x[1], got)
		}
	}
}

func TestNewIsExactAndNeat(t *testing.T) {
	check := func(a, b float64) {
		got := New(a, b)
		if want := add(exactFloat(a), exactFloat(b)); !isNeat(got) || exact(got).Cmp(want) != 0 {
			t.Fatalf("New(%x, %x) = %x", a, b, got)
		}
	}
	r := chance()
	for range 20000 {
		a := anyFloat(r, -400, 399)
		at := math.Ilogb(a)
		check(a, anyFloat(r, -400, 399))
		check(a, anyFloat(r, max(at-60, -400), min(at+60, 399)))
		check(a, -math.Nextafter(a, 0x1p400))
		check(a, 0)
		check(0, a)
	}
}

// P4.1
func TestNeg(t *testing.T) {
	inf := math.Inf(1)
	for _, a := range slices.Concat(tameEdges(), tinyEdges(), []Num{{1, 1}, {math.MaxFloat64, -0x1p900}, {inf, -inf}, {0x1p-1074, 0x1p-1074}}) {
		if got := a.Neg(); got != (Num{-a.Hi, -a.Lo}) {
			t.Errorf("Neg of %x = %x", a, got)
		}
	}
}

// P4.2
func TestAdd(t *testing.T) {
	a := Num{1, 0x1p-60}
	for _, x := range [][3]Num{
		{a, a, {2, 0x1p-59}}, {a, {-1, 0}, {0x1p-60, 0}}, {{-1, 0}, a, {0x1p-60, 0}}, {a, {-1, -0x1p-60}, {}}, {a, {}, a}, {{}, a, a}, {{}, {}, {}},
		{{1, 0}, {0x1p-60, 0}, a}, {{1, 0x1p-54}, {0x1p-54, 0}, {1, 0x1p-53}}, {{1 << 53, 0}, {1, 0x1p-60}, {1 << 53, 1}},
	} {
		got := x[0].Add(x[1])
		if got.Hi != x[2].Hi || differs(got, exact(x[2]), exactFloat(0x1p-59)) || x[2].Lo == 0 && got.Lo != 0 {
			t.Errorf("%x and %x = %x, not %x", x[0], x[1], got, x[2])
		}
	}
}

// boundOfSum: what P4.2 leaves a sum.
func boundOfSum(a, b Num) *big.Float {
	return mul(exactFloat(0x1p-98), add(magnitude(exact(a)), magnitude(exact(b))))
}

func TestAddIsNear(t *testing.T) {
	eachPair(func(a, b Num) {
		if got := a.Add(b); !isNeat(got) || differs(got, add(exact(a), exact(b)), boundOfSum(a, b)) {
			t.Fatalf("%x and %x = %x", a, b, got)
		}
	})
}

// P4.2
func TestMul(t *testing.T) {
	for _, x := range []struct {
		a, b, want Num
		by         float64
	}{
		{Num{1, 0x1p-60}, Num{1, 0x1p-60}, Num{1, 0x1p-59}, 0x1p-98}, {Num{3, 0}, Num{-5, 0}, Num{-15, 0}, 0x1p-95}, {Num{1<<53 - 1, 0}, Num{1<<53 - 1, 0}, Num{0x1p106 - 0x1p54, 1}, 0x1p8},
		{Num{}, Num{1, 0x1p-60}, Num{}, 0}, {Num{1, 0x1p-60}, Num{}, Num{}, 0}, {Num{}, Num{}, Num{}, 0}, {Num{1, 0x1p-60}, Num{1, -0x1p-60}, Num{1, 0}, 0x1p-98},
		{Num{0x1p150, 0}, Num{0x1p150, 0}, Num{0x1p300, 0}, 0x1p202}, {Num{0x1p-150, 0}, Num{0x1p-150, 0}, Num{0x1p-300, 0}, 0x1p-398},
	} {
		if got := x.a.Mul(x.b); got.Hi != x.want.Hi || differs(got, exact(x.want), exactFloat(x.by)) {
			t.Errorf("%x by %x = %x, not %x", x.a, x.b, got, x.want)
		}
	}
}

func boundOfProduct(a, b Num) *big.Float {
	return mul(exactFloat(0x1p-98), magnitude(mul(exact(a), exact(b))))
}

func TestMulIsNear(t *testing.T) {
	eachPair(func(a, b Num) {
		if got := a.Mul(b); !isNeat(got) || differs(got, mul(exact(a), exact(b)), boundOfProduct(a, b)) {
			t.Fatalf("%x by %x = %x", a, b, got)
		}
	})
}

// P4.2: held to a, after a product with b, so that no quotient needs to be rounded here.
func quoIsFar(a, b, got Num) bool {
	rest := magnitude(precise().Sub(mul(exact(got), exact(b)), exact(a)))
	return !isNeat(got) || rest.Cmp(mul(exactFloat(0x1p-96), magnitude(exact(a)))) > 0
}

func TestQuo(t *testing.T) {
	for _, x := range []struct {
		a, b Num
		hi   float64
	}{
		{Num{1, 0}, Num{3, 0}, 1.0 / 3}, {Num{6, 0}, Num{3, 0}, 2}, {Num{-1, 0}, Num{8, 0}, -0.125}, {Num{}, Num{3, 0x1p-60}, 0}, {Num{1, 0x1p-60}, Num{1, 0x1p-60}, 1}, {Num{1, 0}, Num{10, 0}, 0.1},
		{Num{0x1p150, 0}, Num{0x1p-150, 0}, 0x1p300}, {Num{0x1p-150, 0}, Num{0x1p150, 0}, 0x1p-300},
		// As floats alone these are 1.
		{Num{1, -0x1p-54}, Num{1, 0x1p-54}, 1 - 0x1p-53}, {Num{1, 0x1p-53}, Num{1, -0x1p-54}, 1 + 0x1p-52},
	} {
		if got := x.a.Quo(x.b); got.Hi != x.hi || quoIsFar(x.a, x.b, got) {
			t.Errorf("%x over %x = %x", x.a, x.b, got)
		}
	}
}

func TestQuoIsNear(t *testing.T) {
	eachPair(func(a, b Num) {
		if b.Hi == 0 {
			return
		}
		if got := a.Quo(b); quoIsFar(a, b, got) {
			t.Fatalf("%x over %x = %x", a, b, got)
		}
	})
}

// P4.3
func TestFloat(t *testing.T) {
	for _, a := range tameEdges() {
		if got := a.Float(); got != a.Hi {
			t.Errorf("Float of %x = %x", a, got)
		}
	}
}

// polyIsFar: is the value of a polynomial not what P4.3 asks for?
func polyIsFar(got Num, x Num, coefficients []Num) bool {
	want, power := precise(), exactFloat(1)
	for _, c := range coefficients {
		want = add(want, mul(exact(c), power))
		power = mul(power, exact(x))
	}
	return !isNeat(got) || differs(got, want, exactFloat(0x1p-88))
}

// P4.3
func TestPoly(t *testing.T) {
	one, third := Num{1, 0}, Num{1.0 / 3, 0x1.5555555555555p-56}
	if got := Poly(third); got != (Num{}) {
		t.Errorf("of no coefficients %x", got)
	}
	if got := Poly(one, nil...); got != (Num{}) {
		t.Errorf("of nil %x", got)
	}
	for _, c := range []Num{one, third, {}, {-1, 0x1p-60}, {0x1p-150, 0}} {
		for _, x := range []Num{{}, one, third} {
			if got := Poly(x, c); differs(got, exact(c), exactFloat(0x1p-88)) || !isNeat(got) {
				t.Errorf("of %x alone %x", c, got)
			}
		}
	}
	for _, x := range []struct {
		x            Num
		coefficients []Num
		hi           float64
	}{
		{Num{0.5, 0}, []Num{one, {-1, 0}}, 0.5}, {Num{0.5, 0}, []Num{{}, {}, {}, one}, 0.125}, {Num{-1, 0}, []Num{{0.5, 0}, {0.25, 0}, {0.125, 0}}, 0.375}, {Num{}, []Num{third, one, one}, third.Hi},
		// All that is left is below the bits of a float.
		{Num{1, 0}, []Num{{1, 0x1p-60}, {-1, 0}}, 0x1p-60}, {Num{1, -0x1p-70}, []Num{{-1, 0}, one}, -0x1p-70}, {Num{1, -0x1p-60}, []Num{{-1, 0}, {}, one}, -0x1p-59},
	} {
		if got := Poly(x.x, x.coefficients...); math.Abs(got.Hi-x.hi) > 0x1p-88 || polyIsFar(got, x.x, x.coefficients) {
			t.Errorf("of %x at %x: %x", x.coefficients, x.x, got)
		}
	}
}

// upToOne: numbers of magnitude up to 1: 1, near ones, and any.
func upToOne(r *rand.Rand, tiny []Num) Num {
	var a Num
	switch r.IntN(8) {
	case 0:
		a = Num{1, 0}
	case 1:
		a = Num{1, -0x1p-54}
	case 2:
		a = tiny[r.IntN(len(tiny))]
	case 3:
		a = anyTame(r, -150, -1)
	default:
		a = anyTame(r, -1, -1)
	}
	if r.IntN(2) == 0 {
		a = Num{-a.Hi, -a.Lo}
	}
	return a
}

func TestPolyIsNear(t *testing.T) {
	r, tiny := chance(), tinyEdges()
	for i := range 2000 {
		coefficients := make([]Num, i%65)
		for j := range coefficients {
			coefficients[j] = upToOne(r, tiny)
		}
		x := upToOne(r, tiny)
		if got := Poly(x, coefficients...); polyIsFar(got, x, coefficients) {
			t.Fatalf("of %x at %x: %x", coefficients, x, got)
		}
	}
}

// The most coefficients, of one sign and near 1, at numbers near 1: there the values grow, and with them what is rounded off.
func TestPolyIsNearWhereItIsGreatest(t *testing.T) {
	r := chance()
	nearOne := func() Num {
		for {
			if a := (Num{1 - float64(r.IntN(1000))*0x1p-53, anyFloat(r, -110, -55)}); isTame(a) && exact(a).Cmp(exactFloat(1)) <= 0 {
				return a
			}
		}
	}
	for range 500 {
		x, coefficients := nearOne(), make([]Num, 64)
		for j := range coefficients {
			coefficients[j] = nearOne()
		}
		if got := Poly(x, coefficients...); polyIsFar(got, x, coefficients) {
			t.Fatalf("of %x at %x: %x", coefficients, x, got)
		}
		// At -1 the terms' signs take turns.
		if got := Poly(Num{-1, 0}, coefficients...); polyIsFar(got, Num{-1, 0}, coefficients) {
			t.Fatalf("of %x at -1: %x", coefficients, got)
		}
	}
}

// Rule 4: coefficients that come in as a list are as they were, and what lies behind its length has no part.
func TestPolyLeavesItsCoefficients(t *testing.T) {
	all := []Num{{1, 0x1p-60}, {-0.5, 0}, {0.25, 0x1p-80}, {math.NaN(), 0}, {1, 0}}
	list := slices.Clone(all)
	got := Poly(Num{0.5, 0}, list[:3]...)
	if polyIsFar(got, Num{0.5, 0}, all[:3]) {
		t.Errorf("with more behind %x", got)
	}
	for i, a := range list {
		if a != all[i] && i != 3 {
			t.Errorf("coefficient %d is now %x", i, a)
		}
	}
	if list[3].Lo != 0 || !math.IsNaN(list[3].Hi) {
		t.Errorf("what lay behind is now %x", list[3])
	}
}

// P4.4: the numbers that count as tame, but for 2^-200 more.
func TestTinyNumbersCountAsTame(t *testing.T) {
	more := exactFloat(0x1p-200)
	check := func(a, b Num) {
		if got := a.Add(b); !isNeat(got) || differs(got, add(exact(a), exact(b)), add(boundOfSum(a, b), more)) {
			t.Fatalf("%x and %x = %x", a, b, got)
		}
		if got := a.Mul(b); !isNeat(got) || differs(got, mul(exact(a), exact(b)), add(boundOfProduct(a, b), more)) {
			t.Fatalf("%x by %x = %x", a, b, got)
		}
	}
	tiny, tame := tinyEdges(), withHigh([]float64{0, 1, 0x1.fffffffffffffp-1, math.Pi, 0x1p-150, 0x1p150}, isTame)
	for i, a := range tiny {
		for _, b := range tame {
			check(a, b)
			check(b, a)
		}
		// Not all pairs, but each number beside others of all sizes.
		for j := i % 5; j < len(tiny); j += 5 {
			check(a, tiny[j])
		}
	}
}

func sameFloat(a, b float64) bool { return a == b || math.IsNaN(a) && math.IsNaN(b) }

func same(a, b Num) bool { return sameFloat(a.Hi, b.Hi) && sameFloat(a.Lo, b.Lo) }

// P4.4, P1: any result will do, but the same one whenever the same is asked (rule 8).
func TestWildNumbersEnd(t *testing.T) {
	all := slices.Concat(wild(), tinyEdges()[:60], tameEdges()[:60])
	tell := func(a, b Num) []Num {
		return []Num{New(a.Hi, b.Hi), New(a.Lo, b.Hi), a.Add(b), a.Neg(), a.Mul(b), a.Quo(b), {a.Float(), 0}, Poly(a, b, a, b), Poly(a, b), Poly(a)}
	}
	for _, a := range all {
		for _, b := range all {
			first := tell(a, b)
			tell(b, a)
			if again := tell(a, b); !slices.EqualFunc(first, again, same) {
				t.Errorf("of %x and %x first %x, then %x", a, b, first, again)
			}
		}
	}
	for _, a := range all {
		a.Quo(Num{})
		Num{}.Quo(a)
		Poly(a, slices.Repeat([]Num{a}, 200)...)
	}
}

// The numbers that the tests take are of the kinds that they are taken for, and enough of them.
func TestEdges(t *testing.T) {
	if n := len(tameEdges()); n < 200 {
		t.Errorf("but %d tame edges", n)
	}
	if n := len(tinyEdges()); n < 100 {
		t.Errorf("but %d tiny edges", n)
	}
	for _, a := range []Num{{1, 0x1p-52}, {1, 0x1p-53 + 0x1p-100}, {1, -0x1.8p-54}, {1 + 0x1p-52, 0x1p-53}, {0, 1}, {math.Inf(1), 0}, {math.NaN(), 0}} {
		if isNeat(a) {
			t.Errorf("%x is no neat number", a)
		}
	}
	for _, a := range []Num{{1, 0x1p-401}, {math.Nextafter(0x1p-150, 0), 0}, {math.Nextafter(0x1p150, 0x1p151), 0}} {
		if isTame(a) || !isNeat(a) {
			t.Errorf("%x should be neat, but not tame", a)
		}
	}
	for _, a := range []Num{{}, {1, 0}, {1, 0x1p-53}, {1, -0x1p-54}, {0x1p-150, 0x1p-400}, {0x1p150, 0x1p97}} {
		if !isTame(a) {
			t.Errorf("%x should be tame", a)
		}
	}
}
