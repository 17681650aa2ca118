package chirp

import (
	"math"
	"math/big"
	"math/rand/v2"
	"slices"
	"testing"

	"diapason/api"
)

// The bounds as the document tells them.
const (
	mostInner   = 32768
	mostN       = 16384
	mostLength  = 1024
	mostModulus = 1 << 31
)

// wild: sizes that are outside of every bound.
var wild = []int{math.MinInt, math.MinInt + 1, -1 << 62, -1 << 32, -mostInner, -7, -2, -1, 0, mostInner + 1, mostInner + 3, 1 << 16, 1<<31 + 1, 1 << 32, 1<<32 + 7, 1 << 62, 1<<62 + 1, math.MaxInt - 1, math.MaxInt}

func chance() *rand.Rand { return rand.New(rand.NewPCG(3, 4)) }

// isPrime: by its words: no number between 1 and n divides it.
func isPrime(n int) bool {
	for d := 2; d*d <= n; d++ {
		if n%d == 0 {
			return false
		}
	}
	return n >= 2
}

// P8.1
func TestSquares(t *testing.T) {
	for _, x := range []struct {
		n    int
		want []int
	}{
		{1, []int{0}}, {2, []int{0, 1}}, {3, []int{0, 1, 4}}, {4, []int{0, 1, 4, 1}}, {5, []int{0, 1, 4, 9, 6}}, {6, []int{0, 1, 4, 9, 4, 1}}, {8, []int{0, 1, 4, 9, 0, 9, 4, 1}},
	} {
		if got, e := Squares(x.n); e != api.OK || !slices.Equal(got, x.want) {
			t.Errorf("Squares(%d) = %v, %d, not %v", x.n, got, e, x.want)
		}
	}
}

// P8.1
func TestSquaresByTheirWords(t *testing.T) {
	sizes := []int{1000, 1023, 1024, 1025, 7919, 10000, mostN, mostN + 1, 32749, mostInner - 1, mostInner}
	for n := range 200 {
		sizes = append(sizes, n+1)
	}
	for _, n := range sizes {
		got, e := Squares(n)
		if e != api.OK || len(got) != n {
			t.Fatalf("Squares(%d): %d of them, %d", n, len(got), e)
		}
		for k, rest := range got {
			// The remainder is the one number of its range that differs by a multiple of 2n.
			if rest < 0 || rest >= 2*n || (k*k-rest)%(2*n) != 0 {
				t.Fatalf("Squares(%d)[%d] = %d", n, k, rest)
			}
		}
	}
}

// P8.1
func TestSquaresOfSizesOutside(t *testing.T) {
	for _, n := range wild {
		if got, e := Squares(n); len(got) != 0 || e != api.ErrSize {
			t.Errorf("Squares(%d): %d of them, %d", n, len(got), e)
		}
	}
}

// P8.2
func TestPowersAndLogs(t *testing.T) {
	for _, x := range []struct {
		p            int
		powers, logs []int
	}{
		{2, []int{1}, []int{-1, 0}},
		{3, []int{1, 2}, []int{-1, 0, 1}},
		{5, []int{1, 2, 4, 3}, []int{-1, 0, 1, 3, 2}},
		{7, []int{1, 3, 2, 6, 4, 5}, []int{-1, 0, 2, 1, 4, 5, 3}},
		{11, []int{1, 2, 4, 8, 5, 10, 9, 7, 3, 6}, []int{-1, 0, 1, 8, 2, 4, 9, 7, 3, 6, 5}},
	} {
		if got, e := Powers(x.p); e != api.OK || !slices.Equal(got, x.powers) {
			t.Errorf("Powers(%d) = %v, %d, not %v", x.p, got, e, x.powers)
		}
		if got, e := Logs(x.p); e != api.OK || !slices.Equal(got, x.logs) {
			t.Errorf("Logs(%d) = %v, %d, not %v", x.p, got, e, x.logs)
		}
	}
}

// powersOf: the remainders of all powers of g by p until 1 comes again.
func powersOf(g, p int) []int {
	l := []int{1 % p}
	for power := g % p; power > 1; power = power * g % p {
		l = append(l, power)
	}
	return l
}

// leastRoot: the least number whose powers are p - 1.
func leastRoot(p int) int {
	g := 1
	for len(powersOf(g, p)) != p-1 {
		g++
	}
	return g
}

// P8.2
func TestPowersByTheirWords(t *testing.T) {
	primes := 0
	for p := 2; p <= mostInner; p++ {
		if !isPrime(p) {
			continue
		}
		primes++
		// All the small ones, all the great ones, and every tenth between.
		if p > 1000 && p < mostInner-500 && primes%10 != 0 {
			continue
		}
		got, e := Powers(p)
		if want := powersOf(leastRoot(p), p); e != api.OK || !slices.Equal(got, want) {
			t.Fatalf("Powers(%d): %d of them, %d", p, len(got), e)
		}
	}
	if primes != 3512 {
		t.Errorf("%d primes were gone through, not 3512", primes)
	}
}

// P8.2
func TestPowersOfThePrimesWithGreatRoots(t *testing.T) {
	for _, x := range [][2]int{{191, 19}, {409, 21}, {2161, 23}, {5881, 31}, {23, 5}, {41, 6}, {71, 7}, {257, 3}, {32749, 2}, {31657, 15}} {
		got, e := Powers(x[0])
		if e != api.OK || len(got) != x[0]-1 || got[0] != 1 || got[1] != leastRoot(x[0]) {
			t.Errorf("Powers(%d): %d of them, %d", x[0], len(got), e)
		}
	}
}

// P8.2
func TestLogsByTheirWords(t *testing.T) {
	for _, p := range []int{2, 3, 5, 7, 11, 13, 17, 19, 23, 29, 31, 37, 191, 257, 409, 1021, 5881, 8191, 12289, 16381, 32719, 32749} {
		powers, _ := Powers(p)
		logs, e := Logs(p)
		if e != api.OK || len(logs) != p {
			t.Fatalf("Logs(%d): %d of them, %d", p, len(logs), e)
		}
		for x, k := range logs {
			if x == 0 && k != -1 || x > 0 && (k < 0 || k >= p-1 || powers[k] != x) {
				t.Fatalf("Logs(%d)[%d] = %d", p, x, k)
			}
		}
	}
}

// P8.2; a size is looked at ahead of whether it is a prime, so that primes beyond the bound are of a wrong size, too.
func TestPowersAndLogsOfSizesOutside(t *testing.T) {
	for _, p := range append([]int{1, 32771, 32779, 65537, 1<<31 - 1, 1<<61 - 1, -3}, wild...) {
		if got, e := Powers(p); len(got) != 0 || e != api.ErrSize {
			t.Errorf("Powers(%d): %d of them, %d", p, len(got), e)
		}
		if got, e := Logs(p); len(got) != 0 || e != api.ErrSize {
			t.Errorf("Logs(%d): %d of them, %d", p, len(got), e)
		}
	}
}

// P8.2
func TestPowersAndLogsOfNoPrimes(t *testing.T) {
	for p := 2; p <= mostInner; p++ {
		if isPrime(p) {
			continue
		}
		if got, e := Powers(p); len(got) != 0 || e != api.ErrPrime {
			t.Fatalf("Powers(%d): %d of them, %d", p, len(got), e)
		}
		if got, e := Logs(p); len(got) != 0 || e != api.ErrPrime {
			t.Fatalf("Logs(%d): %d of them, %d", p, len(got), e)
		}
	}
}

// P8.3
func TestPadded(t *testing.T) {
	for _, x := range [][2]int{
		{1, 1}, {2, 4}, {3, 8}, {4, 8}, {5, 16}, {6, 16}, {7, 16}, {8, 16}, {9, 32}, {16, 32}, {17, 64}, {32, 64}, {33, 128},
		{mostN / 2, mostN}, {mostN/2 + 1, 2 * mostN}, {mostN - 1, 2 * mostN}, {mostN, 2 * mostN},
	} {
		if got, e := Padded(x[0]); got != x[1] || e != api.OK {
			t.Errorf("Padded(%d) = %d, %d, not %d", x[0], got, e, x[1])
		}
	}
	for n := 1; n <= mostN; n++ {
		got, e := Padded(n)
		isPower := got > 0 && got&(got-1) == 0
		if e != api.OK || !isPower || got < 2*n-1 || got > 1 && got/2 >= 2*n-1 {
			t.Fatalf("Padded(%d) = %d, %d", n, got, e)
		}
	}
}

// P8.3
func TestPaddedOfSizesOutside(t *testing.T) {
	for _, n := range append([]int{mostN + 1, mostN + 2, 2 * mostN, mostInner}, wild...) {
		if got, e := Padded(n); got != 0 || e != api.ErrSize {
			t.Errorf("Padded(%d) = %d, %d", n, got, e)
		}
	}
}

// P8.4
func TestConvolve(t *testing.T) {
	for _, x := range []struct {
		a, b []int64
		m    int64
		want []int64
	}{
		{[]int64{1, 2}, []int64{3, 4}, 100, []int64{11, 10}},
		{[]int64{1, 2}, []int64{3, 4}, 11, []int64{0, 10}},
		{[]int64{1, 2}, []int64{3, 4}, 10, []int64{1, 0}},
		{[]int64{1, 2}, []int64{3, 4}, 1, []int64{0, 0}},
		{[]int64{1, 2, 3}, []int64{0, 1, 0}, 100, []int64{3, 1, 2}},
		{[]int64{1, 2, 3}, []int64{0, 0, 1}, 100, []int64{2, 3, 1}},
		{[]int64{1, 2, 3}, []int64{4, 5, 6}, 1000, []int64{31, 31, 28}},
		{[]int64{-1, 0, 0}, []int64{1, 2, 3}, 7, []int64{6, 5, 4}},
		{[]int64{-7, 0}, []int64{1, -3}, 7, []int64{0, 0}},
		{[]int64{7}, []int64{8}, 100, []int64{56}},
		{[]int64{7}, []int64{-8}, 100, []int64{44}},
		{[]int64{math.MaxInt64}, []int64{math.MaxInt64}, mostModulus, []int64{1}},
		{[]int64{math.MinInt64}, []int64{math.MinInt64}, mostModulus, []int64{0}},
		{[]int64{math.MinInt64}, []int64{math.MaxInt64}, mostModulus - 1, []int64{mostModulus - 3}},
		{[]int64{-1}, []int64{1}, mostModulus, []int64{mostModulus - 1}},
	} {
		if got, e := Convolve(x.a, x.b, x.m); e != api.OK || !slices.Equal(got, x.want) {
			t.Errorf("of %v and %v by %d: %v, %d, not %v", x.a, x.b, x.m, got, e, x.want)
		}
	}
}

// P8.4
func TestConvolveOfNothing(t *testing.T) {
	for _, m := range []int64{1, 2, 7, mostModulus} {
		for _, a := range [][]int64{nil, {}} {
			for _, b := range [][]int64{nil, {}} {
				if got, e := Convolve(a, b, m); len(got) != 0 || e != api.OK {
					t.Errorf("of nothing by %d: %v, %d", m, got, e)
				}
			}
		}
	}
}

// convolvedByItsWords: the sum over all i and j with i + j equal to k or k + n, without a bound, and then its remainder.
func convolvedByItsWords(a, b []int64, m int64) []int64 {
	n := len(a)
	sums := make([]big.Int, n)
	product := new(big.Int)
	for k := range n {
		for i := range n {
			for _, j := range []int{k - i, k + n - i} {
				if j >= 0 && j < n {
					sums[k].Add(&sums[k], product.Mul(big.NewInt(a[i]), big.NewInt(b[j])))
				}
			}
		}
	}
	l := make([]int64, n)
	for k := range l {
		// Mod leaves a remainder from 0 on, as layer 1 tells it.
		l[k] = new(big.Int).Mod(&sums[k], big.NewInt(m)).Int64()
	}
	return l
}

// someList: numbers of all makes: small, at the ends of the int64s, at those of the remainders, any.
func someList(r *rand.Rand, n int, m int64) []int64 {
	ends := []int64{math.MinInt64, math.MinInt64 + 1, math.MaxInt64, math.MaxInt64 - 1, -1, 0, 1, m - 1, m, m + 1, -m, 1 - m, -1 - m, mostModulus, mostModulus - 1}
	l := make([]int64, n)
	for i := range l {
		switch r.IntN(3) {
		case 0:
			l[i] = ends[r.IntN(len(ends))]
		case 1:
			l[i] = r.Int64N(41) - 20
		default:
			l[i] = int64(r.Uint64())
		}
	}
	return l
}

// P8.4
func TestConvolveByItsWords(t *testing.T) {
	r := chance()
	for n := range 40 {
		for _, m := range []int64{1, 2, 3, 7, 16, 97, 1000, 65536, 65537, 1<<30 + 3, mostModulus - 1, mostModulus} {
			a, b := someList(r, n, m), someList(r, n, m)
			got, e := Convolve(a, b, m)
			if want := convolvedByItsWords(a, b, m); e != api.OK || !slices.Equal(got, want) {
				t.Fatalf("of %v and %v by %d: %v, %d, not %v", a, b, m, got, e, want)
			}
		}
	}
}

// P8.4: the longest lists, of numbers that make the greatest sums.
func TestConvolveOfTheLongestLists(t *testing.T) {
	r := chance()
	for _, n := range []int{mostLength - 1, mostLength} {
		for _, m := range []int64{1, mostModulus - 1, mostModulus} {
			a, b := someList(r, n, m), someList(r, n, m)
			got, e := Convolve(a, b, m)
			if want := convolvedByItsWords(a, b, m); e != api.OK || !slices.Equal(got, want) {
				t.Errorf("of %d numbers by %d: another list, %d", n, m, e)
			}
			for _, x := range []int64{m - 1, -1, math.MaxInt64, math.MinInt64} {
				same := slices.Repeat([]int64{x}, n)
				got, e := Convolve(same, same, m)
				square := new(big.Int).Mul(big.NewInt(x), big.NewInt(x))
				sum := square.Mul(square, big.NewInt(int64(n)))
				want := slices.Repeat([]int64{sum.Mod(sum, big.NewInt(m)).Int64()}, n)
				if e != api.OK || !slices.Equal(got, want) {
					t.Errorf("of %d times %d by %d: another list, %d", n, x, m, e)
				}
			}
		}
	}
}

// P8.4
func TestConvolveRefuses(t *testing.T) {
	list := func(n int) []int64 { return make([]int64, n) }
	for _, m := range []int64{math.MinInt64, -mostModulus, -7, -1, 0, mostModulus + 1, 1 << 32, 1<<32 + 1, api.MaxMod, math.MaxInt64} {
		// The modulus is told ahead of the lengths.
		for _, x := range [][2]int{{0, 0}, {1, 1}, {mostLength, mostLength}, {1, 2}, {0, 1}, {mostLength + 1, mostLength + 1}} {
			if got, e := Convolve(list(x[0]), list(x[1]), m); len(got) != 0 || e != api.ErrArg {
				t.Errorf("of lists of %d and %d by %d: %d numbers, %d", x[0], x[1], m, len(got), e)
			}
		}
	}
	for _, m := range []int64{1, 7, mostModulus} {
		for _, x := range [][2]int{{0, 1}, {1, 0}, {1, 2}, {3, 2}, {mostLength, mostLength - 1}, {mostLength, mostLength + 1}, {mostLength + 1, mostLength}, {mostLength + 1, mostLength + 1}, {5000, 5000}} {
			if got, e := Convolve(list(x[0]), list(x[1]), m); len(got) != 0 || e != api.ErrLen {
				t.Errorf("of lists of %d and %d by %d: %d numbers, %d", x[0], x[1], m, len(got), e)
			}
		}
	}
}

// Rule 4: what is handed in stays as it is, also behind its length; what is answered is new memory.
func TestConvolveLeavesItsLists(t *testing.T) {
	a, b := []int64{-1, 300, math.MinInt64, 9, 9}, []int64{5, -600, 7, 8, 8}
	wantA, wantB := slices.Clone(a), slices.Clone(b)
	got, e := Convolve(a[:3], b[:3], 100)
	if want := convolvedByItsWords(a[:3], b[:3], 100); e != api.OK || !slices.Equal(got, want) {
		t.Errorf("%v, %d, not %v", got, e, want)
	}
	for i := range got {
		got[i] = 77
	}
	got = append(got, 77)
	if !slices.Equal(a, wantA) || !slices.Equal(b, wantB) {
		t.Errorf("the lists became %v and %v", a, b)
	}
	// One list may be handed in twice.
	if got, e := Convolve(a[:3], a[:3], 97); e != api.OK || !slices.Equal(got, convolvedByItsWords(a[:3], a[:3], 97)) || !slices.Equal(a, wantA) {
		t.Errorf("of a list and itself: %v, %d", got, e)
	}
}

// Rules 4 and 8: an answer that is changed changes no later one.
func TestTablesAreNewMemory(t *testing.T) {
	for name, table := range map[string]func(int) ([]int, api.Errno){"Squares": Squares, "Powers": Powers, "Logs": Logs} {
		first, _ := table(7)
		want := slices.Clone(first)
		second, _ := table(7)
		for i := range first {
			first[i] = -77
		}
		table(13)
		if third, _ := table(7); !slices.Equal(second, want) || !slices.Equal(third, want) {
			t.Errorf("%s(7): %v, %v, after the first answer was changed", name, second, third)
		}
	}
}
