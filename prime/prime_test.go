package prime

import (
	"math"
	"math/big"
	"slices"
	"testing"

	"diapason/api"
)

// outside: numbers of which nothing is told by any call.
var outside = []int64{math.MinInt64, math.MinInt64 + 1, -api.MaxMod, -api.MaxFactor, -97, -7, -2, -1, 0}

// beyond: numbers above MaxFactor, primes and others.
var beyond = []int64{api.MaxFactor + 1, 1099511627791, 1 << 41, 1<<61 - 1, api.MaxMod - 57, api.MaxMod, api.MaxMod + 1, math.MaxInt64 - 1, math.MaxInt64}

// great: the greatest numbers up to MaxFactor of each make: primes, powers, products of two great primes and of many small ones.
var great = []int64{
	api.MaxFactor, api.MaxFactor - 1, api.MaxFactor - 2, 1099511627689, 1099511627609, 1048573 * 1048573, 1048573 * 1048571, 1048571 * 1048571, 1000003 * 1000003,
	3 * 366503875919, 2 * 549755813881, 10321 * 10321 * 10321, 1021 * 1021 * 1021 * 1021, 847288609443, 762939453125, 678223072849, 963761198400, 200560490130, 549755813881, 1 << 39, 3 << 38,
}

// knownPrimes: the numbers below a bound that no lesser one but 1 divides, by striking out.
func knownPrimes(bound int) []bool {
	is := make([]bool, bound)
	for n := 2; n < bound; n++ {
		is[n] = true
	}
	for n := range bound {
		for m := 2 * n; is[n] && m < bound; m += n {
			is[m] = false
		}
	}
	return is
}

func isByBig(n int64) bool { return big.NewInt(n).ProbablyPrime(20) }

// P2.1
func TestIs(t *testing.T) {
	for n, is := range knownPrimes(200000) {
		if got := Is(int64(n)); got != is {
			t.Fatalf("Is(%d) = %v", n, got)
		}
	}
	for _, n := range []int64{65537, 1000003, 1<<31 - 1, 4294967291, 4294967311, 1099511627689, 1099511627791, 1<<61 - 1, api.MaxMod - 57, 3037000493, 999999999989, 67280421310721} {
		if !Is(n) {
			t.Errorf("Is(%d) = false", n)
		}
	}
}

func TestIsNoneOutside(t *testing.T) {
	for _, n := range append(outside, 1) {
		if Is(n) {
			t.Errorf("Is(%d) = true", n)
		}
	}
	// Primes among them: 2^62 + 135, 2^63 - 25, 2^63 - 165.
	for _, n := range []int64{api.MaxMod, api.MaxMod + 1, api.MaxMod + 135, math.MaxInt64, math.MaxInt64 - 24, math.MaxInt64 - 164} {
		if Is(n) {
			t.Errorf("Is(%d) = true", n)
		}
	}
	if !isByBig(api.MaxMod+135) || !isByBig(math.MaxInt64-24) {
		t.Error("the numbers above MaxMod should have primes among them")
	}
}

// Numbers that seem to be primes by some bases: by Fermat's test, by the strong one for the first base, the first two, and so on.
func TestIsNotDeceived(t *testing.T) {
	for _, n := range []int64{
		341, 561, 645, 1105, 1729, 2465, 2821, 6601, 8911, 41041, 825265, 321197185, 9746347772161,
		2047, 3277, 4033, 4681, 8321, 15841, 29341, 42799, 49141, 52633, 65281, 74665, 80581, 85489, 88357, 90751,
		1373653, 25326001, 3215031751, 2152302898747, 3474749660383, 341550071728321, 3825123056546413051,
		121, 703, 1891, 3281, 8401, 8911, 781, 1541, 5461, 5611, 7813, 25, 325, 2101, 8321, 1093 * 1093, 3511 * 3511,
		1 << 61, 1<<61 + 1, 1<<59 - 1, 1<<53 - 1, 1<<32 + 1, 4295098369, 3 << 60,
		2147483647 * 2147483629, 2147483647 * 2147483647, 2147483629 * 2147483629, 1048573 * 1048571, 43 * 43, 41 * 41, 41 * 43, 1681 * 1849,
	} {
		if Is(n) {
			t.Errorf("Is(%d) = true", n)
		}
	}
}

// Carmichael's numbers seem to be primes by every base in Fermat's test; these have no small divisor by which they'd be found out.
func TestIsNotDeceivedByCarmichael(t *testing.T) {
	for _, n := range []int64{252601, 410041, 56052361, 118901521, 172947529, 216821881, 228842209} {
		if Is(n) {
			t.Errorf("Is(%d) = true", n)
		}
	}
	for k := int64(150000); k > 149000; k-- {
		p, q, r := 6*k+1, 12*k+1, 18*k+1
		if n := p * q * r; Is(n) {
			t.Errorf("Is(%d) = true: it is %d times %d times %d", n, p, q, r)
		}
	}
}

// Around each power of two, and among products of two primes of which one is a multiple of the other, but for 1: those deceive most.
func TestIsByBig(t *testing.T) {
	for e := 10; e <= 62; e++ {
		for n := int64(1)<<e - 200; n <= 1<<e+200 && n <= api.MaxMod; n++ {
			if got := Is(n); got != isByBig(n) {
				t.Fatalf("Is(%d) = %v", n, got)
			}
		}
	}
	for p := int64(1000003); p < 1003003; p += 2 {
		for k := int64(2); k < 6; k++ {
			n := p * (k*(p-1) + 1)
			if Is(n) {
				t.Fatalf("Is(%d) = true", n)
			}
		}
	}
}

// checkFactor: the chapter's own words hold: they are primes, rising, and their product is n.
func checkFactor(t *testing.T, n int64) {
	t.Helper()
	product, last := big.NewInt(1), int64(1)
	for _, power := range Factor(n) {
		if power.P <= last || power.E < 1 || !isByBig(power.P) {
			t.Fatalf("Factor(%d) = %v", n, Factor(n))
		}
		last = power.P
		for range power.E {
			product.Mul(product, big.NewInt(power.P))
		}
	}
	if product.Cmp(big.NewInt(n)) != 0 {
		t.Fatalf("Factor(%d) = %v", n, Factor(n))
	}
}

// P2.2
func TestFactor(t *testing.T) {
	for _, x := range []struct {
		n    int64
		want []Power
	}{
		{1, nil}, {2, []Power{{2, 1}}}, {3, []Power{{3, 1}}}, {4, []Power{{2, 2}}}, {6, []Power{{2, 1}, {3, 1}}}, {12, []Power{{2, 2}, {3, 1}}}, {97, []Power{{97, 1}}},
		{360, []Power{{2, 3}, {3, 2}, {5, 1}}}, {9, []Power{{3, 2}}}, {25, []Power{{5, 2}}}, {16384, []Power{{2, 14}}}, {1001, []Power{{7, 1}, {11, 1}, {13, 1}}},
		{api.MaxFactor, []Power{{2, 40}}}, {api.MaxFactor - 1, []Power{{3, 1}, {5, 2}, {11, 1}, {17, 1}, {31, 1}, {41, 1}, {61681, 1}}},
		{1099511627689, []Power{{1099511627689, 1}}}, {1048573 * 1048571, []Power{{1048571, 1}, {1048573, 1}}}, {1048573 * 1048573, []Power{{1048573, 2}}},
		{847288609443, []Power{{3, 25}}}, {2 * 549755813881, []Power{{2, 1}, {549755813881, 1}}}, {200560490130, []Power{{2, 1}, {3, 1}, {5, 1}, {7, 1}, {11, 1}, {13, 1}, {17, 1}, {19, 1}, {23, 1}, {29, 1}, {31, 1}}},
	} {
		if got := Factor(x.n); !slices.Equal(got, x.want) {
			t.Errorf("Factor(%d) = %v, not %v", x.n, got, x.want)
		}
	}
	for n := int64(1); n < 30000; n++ {
		checkFactor(t, n)
	}
	for _, n := range great {
		checkFactor(t, n)
	}
	for n := int64(api.MaxFactor - 50); n <= api.MaxFactor; n++ {
		checkFactor(t, n)
	}
}

func TestFactorNoneOutside(t *testing.T) {
	for _, n := range slices.Concat(outside, beyond) {
		if got := Factor(n); len(got) != 0 {
			t.Errorf("Factor(%d) = %v", n, got)
		}
	}
}

// Rule 4: what is answered is new memory.
func TestFactorAnswersNewMemory(t *testing.T) {
	first := Factor(12)
	second := Factor(12)
	for i := range first {
		first[i] = Power{}
	}
	want := []Power{{2, 2}, {3, 1}}
	if third := Factor(12); !slices.Equal(second, want) || !slices.Equal(third, want) {
		t.Errorf("%v, %v, after the first answer was changed", second, third)
	}
}

// orderByItsWords: by multiplying until 1 comes; there are n remainders, so that it comes among the first n or never.
func orderByItsWords(a, n int64) int64 {
	a = (a%n + n) % n
	power := int64(1)
	for e := int64(1); e <= n; e++ {
		power = power * a % n
		if power == 1%n {
			return e
		}
	}
	return 0
}

// leaves1: does a to the power of e leave the remainder of 1 by n?
func leaves1(a, e, n int64) bool {
	rest := new(big.Int).Mod(big.NewInt(a), big.NewInt(n))
	rest.Exp(rest, big.NewInt(e), big.NewInt(n))
	return rest.Mod(rest, big.NewInt(n)).Int64() == 1%n
}

// checkOrder: the power leaves 1 for the order, and for none that is less by a prime; those that leave 1 are the order's multiples.
func checkOrder(t *testing.T, a, n int64) {
	t.Helper()
	got := Order(a, n)
	rest := new(big.Int).Mod(big.NewInt(a), big.NewInt(n))
	if new(big.Int).GCD(nil, nil, rest, big.NewInt(n)).Int64() != 1 {
		if got != 0 {
			t.Errorf("Order(%d, %d) = %d, not 0", a, n, got)
		}
		return
	}
	if got < 1 || got > n || !leaves1(a, got, n) {
		t.Fatalf("Order(%d, %d) = %d: no power that leaves 1", a, n, got)
	}
	for _, power := range Factor(got) {
		if leaves1(a, got/power.P, n) {
			t.Errorf("Order(%d, %d) = %d is not the least", a, n, got)
		}
	}
}

// P2.3
func TestOrder(t *testing.T) {
	for _, x := range [][3]int64{
		{2, 7, 3}, {3, 7, 6}, {2, 4, 0}, {-1, 7, 2}, {6, 7, 2}, {8, 7, 1}, {-6, 7, 1}, {1, 7, 1}, {0, 7, 0}, {7, 7, 0}, {-14, 7, 0},
		{5, 1, 1}, {0, 1, 1}, {1, 1, 1}, {-3, 1, 1}, {math.MinInt64, 1, 1}, {math.MaxInt64, 1, 1}, {1, 2, 1}, {3, 2, 1}, {0, 2, 0}, {2, 2, 0}, {-1, 2, 1},
		{3, 8, 2}, {5, 8, 2}, {7, 8, 2}, {3, 16, 4}, {2, 15, 4}, {4, 15, 2}, {7, 60, 4}, {3, 65537, 65536}, {10, 1000003, 166667},
		{3, api.MaxFactor, 1 << 38}, {5, api.MaxFactor, 1 << 38}, {-1, api.MaxFactor, 2}, {1<<39 + 1, api.MaxFactor, 2}, {2, api.MaxFactor, 0}, {0, api.MaxFactor, 0}, {2, api.MaxFactor - 1, 40}, {-2, api.MaxFactor - 1, 40},
		{math.MinInt64, 7, 2}, {math.MaxInt64, 9, 3}, {math.MaxInt64, 8, 2}, {math.MinInt64, 4, 0},
	} {
		if got := Order(x[0], x[1]); got != x[2] {
			t.Errorf("Order(%d, %d) = %d, not %d", x[0], x[1], got, x[2])
		}
	}
}

func TestOrderByItsWords(t *testing.T) {
	for n := int64(1); n <= 150; n++ {
		for a := -2 * n; a <= 2*n; a++ {
			if got, want := Order(a, n), orderByItsWords(a, n); got != want {
				t.Fatalf("Order(%d, %d) = %d, not %d", a, n, got, want)
			}
		}
	}
	for n := int64(1000); n <= 1100; n++ {
		for _, a := range []int64{-10, -3, 2, 3, 5, 7, 10, 999} {
			if got, want := Order(a, n), orderByItsWords(a, n); got != want {
				t.Fatalf("Order(%d, %d) = %d, not %d", a, n, got, want)
			}
		}
	}
}

func TestOrderByGreatNumbers(t *testing.T) {
	for _, n := range great {
		for _, a := range []int64{math.MinInt64, -1<<40 - 1, -7, -1, 0, 1, 2, 3, 5, 10, 31, 1048571, 1048573, 1 << 40, 1<<40 + 1, math.MaxInt64} {
			checkOrder(t, a, n)
		}
	}
}

func TestOrderNoneOutside(t *testing.T) {
	for _, n := range slices.Concat(outside, beyond) {
		for _, a := range []int64{math.MinInt64, -1, 0, 1, 2, math.MaxInt64} {
			if got := Order(a, n); got != 0 {
				t.Errorf("Order(%d, %d) = %d", a, n, got)
			}
		}
	}
}

// P2.4
func TestRoot(t *testing.T) {
	for _, x := range [][2]int64{
		{2, 1}, {3, 2}, {5, 2}, {7, 3}, {11, 2}, {13, 2}, {17, 3}, {23, 5}, {41, 6}, {71, 7}, {191, 19}, {257, 3}, {409, 21}, {5881, 31}, {36721, 37}, {55441, 38}, {71761, 44}, {110881, 69}, {760321, 73},
		{65537, 3}, {1000003, 2}, {1<<31 - 1, 7}, {4294967291, 2},
	} {
		if got := Root(x[0]); got != x[1] {
			t.Errorf("Root(%d) = %d, not %d", x[0], got, x[1])
		}
	}
}

func TestRootByItsWords(t *testing.T) {
	for n, is := range knownPrimes(1500) {
		p, want := int64(n), int64(0)
		for g := int64(1); is && want == 0; g++ {
			if orderByItsWords(g, p) == p-1 {
				want = g
			}
		}
		if got := Root(p); got != want {
			t.Errorf("Root(%d) = %d, not %d", p, got, want)
		}
	}
}

// Its order is p - 1, and that of no lesser number is.
func TestRootOfGreatPrimes(t *testing.T) {
	found := 0
	for p := int64(api.MaxFactor); found < 20; p-- {
		if !isByBig(p) {
			if Root(p) != 0 {
				t.Errorf("Root(%d) = %d, not 0", p, Root(p))
			}
			continue
		}
		found++
		root := Root(p)
		checkOrder(t, root, p)
		if root < 1 || Order(root, p) != p-1 {
			t.Fatalf("Root(%d) = %d, which has the order %d", p, root, Order(root, p))
		}
		for g := int64(1); g < root; g++ {
			checkOrder(t, g, p)
			if Order(g, p) == p-1 {
				t.Fatalf("Root(%d) = %d, but %d is less", p, root, g)
			}
		}
	}
}

func TestRootNoneOfOthers(t *testing.T) {
	for _, p := range slices.Concat(outside, beyond, []int64{1, 4, 9, 15, 25, 561, 2047, 3215031751, 1048573 * 1048571, 1048573 * 1048573, api.MaxFactor, 3474749660383}) {
		if got := Root(p); got != 0 {
			t.Errorf("Root(%d) = %d", p, got)
		}
	}
}

// Rule 8: the same is answered whenever the same is asked, whatever was asked between.
func TestAnswersHangOnArguments(t *testing.T) {
	asked := slices.Concat(outside, beyond, great)
	tell := func() []int64 {
		var told []int64
		for _, n := range asked {
			told = append(told, Order(5, n), Root(n))
			if Is(n) {
				told = append(told, n)
			}
			for _, power := range Factor(n) {
				told = append(told, power.P, int64(power.E))
			}
		}
		return told
	}
	first := tell()
	slices.Reverse(asked)
	tell()
	slices.Reverse(asked)
	if again := tell(); !slices.Equal(first, again) {
		t.Errorf("%v, and then %v", first, again)
	}
}
