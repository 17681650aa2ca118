package mod

import (
	"math"
	"math/big"
	"testing"

	"diapason/api"
)

// edges: the numbers at which something turns, for each of the arguments.
var edges = []int64{
	math.MinInt64, math.MinInt64 + 1, -api.MaxMod - 1, -api.MaxMod, -api.MaxMod + 1, -1<<32 - 1, -1 << 31, -12, -7, -3, -2, -1,
	0, 1, 2, 3, 4, 6, 7, 12, 18, 97, 1<<31 - 1, 1 << 31, 1<<32 - 1, 1 << 32, 1<<32 + 1, 3037000500, 3 << 40, 1 << 60, 3 << 60, 1<<61 - 1,
	2880067194370816120, 4660046610375530309, // neighbours of Fibonacci's: Euclid's longest way
	api.MaxMod - 57, api.MaxMod - 1, api.MaxMod, api.MaxMod + 1, math.MaxInt64 - 1, math.MaxInt64,
}

const small = 30 // up to here all numbers are tried, against the words of the chapter themselves

func wide(x int64) *big.Int { return big.NewInt(x) }

// wideRest: the remainder, which big's Mod tells as the chapter does: from 0 on.
func wideRest(x *big.Int, m int64) int64 { return new(big.Int).Mod(x, wide(m)).Int64() }

func holdsModulus(m int64) bool { return m >= 1 && m <= 4611686018427387904 }

// each: all triples of the edges, then all triples of small numbers.
func each(try func(a, b, c int64)) {
	for _, a := range edges {
		for _, b := range edges {
			for _, c := range edges {
				try(a, b, c)
			}
		}
	}
	for a := int64(-small); a <= small; a++ {
		for b := int64(-small); b <= small; b++ {
			for c := int64(-3); c <= small; c++ {
				try(a, b, c)
			}
		}
	}
}

// P1.1
func TestGcd(t *testing.T) {
	for _, x := range [][3]int64{
		{12, 18, 6}, {18, 12, 6}, {1, 1, 1}, {7, 7, 7}, {8, 9, 1},
		{0, 0, 0}, {0, 7, 7}, {7, 0, 7}, {0, math.MaxInt64, math.MaxInt64}, {math.MaxInt64, 0, math.MaxInt64},
		{-1, 3, -1}, {3, -1, -1}, {-4, -6, -1}, {0, -1, -1}, {-1, 0, -1},
		{math.MinInt64, math.MinInt64, -1}, {math.MinInt64, 0, -1}, {2, math.MinInt64, -1}, {math.MinInt64, math.MaxInt64, -1},
		{math.MaxInt64, math.MaxInt64, math.MaxInt64}, {math.MaxInt64, math.MaxInt64 - 1, 1}, {math.MaxInt64, 49, 49},
		{1 << 62, 3 << 60, 1 << 60},
	} {
		if got := Gcd(x[0], x[1]); got != x[2] {
			t.Errorf("Gcd(%d, %d) = %d, not %d", x[0], x[1], got, x[2])
		}
	}
}

func TestGcdOfEdges(t *testing.T) {
	each(func(a, b, _ int64) {
		want := int64(-1)
		if a >= 0 && b >= 0 {
			want = new(big.Int).GCD(nil, nil, wide(a), wide(b)).Int64()
		}
		if got := Gcd(a, b); got != want {
			t.Fatalf("Gcd(%d, %d) = %d, not %d", a, b, got, want)
		}
	})
}

// The greatest that divides both, by trying them all.
func TestGcdByItsWords(t *testing.T) {
	for a := int64(0); a <= small; a++ {
		for b := int64(0); b <= small; b++ {
			want := int64(0)
			for d := int64(1); d <= small && a+b > 0; d++ {
				if a%d == 0 && b%d == 0 {
					want = d
				}
			}
			if got := Gcd(a, b); got != want {
				t.Errorf("Gcd(%d, %d) = %d, not %d", a, b, got, want)
			}
		}
	}
}

// P1.2
func TestMul(t *testing.T) {
	for _, x := range [][4]int64{
		{3, 5, 7, 1}, {-1, 3, 7, 4}, {3, -1, 7, 4}, {-2, -3, 7, 6}, {0, 9, 7, 0}, {7, 9, 7, 0}, {-14, 1, 7, 0},
		{5, 5, 1, 0}, {0, 0, 1, 0}, {math.MinInt64, math.MaxInt64, 1, 0},
		{1<<62 - 1, 1<<62 - 1, 1 << 62, 1}, {1<<62 - 1, 2, 1 << 62, 1<<62 - 2}, {-1, 1, 1 << 62, 1<<62 - 1},
		{math.MinInt64, 1, 1 << 62, 0}, {math.MaxInt64, 1, 1 << 62, 1<<62 - 1},
		{2, 3, 0, -1}, {2, 3, -1, -1}, {2, 3, -7, -1}, {0, 0, 0, -1}, {2, 3, 1<<62 + 1, -1}, {2, 3, math.MaxInt64, -1}, {2, 3, math.MinInt64, -1},
	} {
		if got := Mul(x[0], x[1], x[2]); got != x[3] {
			t.Errorf("Mul(%d, %d, %d) = %d, not %d", x[0], x[1], x[2], got, x[3])
		}
	}
}

func TestMulOfEdges(t *testing.T) {
	each(func(a, b, m int64) {
		want := int64(-1)
		if holdsModulus(m) {
			want = wideRest(new(big.Int).Mul(wide(a), wide(b)), m)
		}
		if got := Mul(a, b, m); got != want {
			t.Fatalf("Mul(%d, %d, %d) = %d, not %d", a, b, m, got, want)
		}
	})
}

// P1.2
func TestPow(t *testing.T) {
	for _, x := range [][4]int64{
		{3, 4, 7, 4}, {2, 10, 1000, 24}, {-2, 3, 11, 3}, {-2, 2, 11, 4}, {5, 1, 7, 5}, {-5, 1, 7, 2},
		{5, 0, 9, 1}, {0, 0, 9, 1}, {-5, 0, 9, 1}, {5, 0, 1, 0}, {0, 0, 1, 0}, {5, 3, 1, 0}, {5, 0, 1 << 62, 1},
		{0, 1, 9, 0}, {0, math.MaxInt64, 9, 0}, {1, math.MaxInt64, 9, 1}, {-1, math.MaxInt64, 9, 8}, {-1, math.MaxInt64 - 1, 9, 1},
		{2, 62, 1<<62 - 1, 1}, {2, 61, 1 << 62, 1 << 61}, {2, 62, 1 << 62, 0}, {math.MinInt64, 2, 1 << 62, 0}, {-1, 3, 1 << 62, 1<<62 - 1},
		{2, -1, 9, -1}, {1, -1, 1, -1}, {2, math.MinInt64, 9, -1}, {0, -1, 9, -1},
		{2, 3, 0, -1}, {2, 0, 0, -1}, {2, 3, -9, -1}, {2, 3, 1<<62 + 1, -1}, {2, 0, math.MaxInt64, -1}, {2, 3, math.MinInt64, -1}, {2, -1, 0, -1},
	} {
		if got := Pow(x[0], x[1], x[2]); got != x[3] {
			t.Errorf("Pow(%d, %d, %d) = %d, not %d", x[0], x[1], x[2], got, x[3])
		}
	}
}

func TestPowOfEdges(t *testing.T) {
	each(func(a, e, m int64) {
		want := int64(-1)
		if holdsModulus(m) && e >= 0 {
			// Exp holds a modulus of 1 and a power of 0 apart from other ones: the last remainder does not.
			want = wideRest(new(big.Int).Exp(wide(wideRest(wide(a), m)), wide(e), wide(m)), m)
		}
		if got := Pow(a, e, m); got != want {
			t.Fatalf("Pow(%d, %d, %d) = %d, not %d", a, e, m, got, want)
		}
	})
}

// A power is what comes of multiplying again and again.
func TestPowByItsWords(t *testing.T) {
	for m := int64(1); m <= small; m++ {
		for a := int64(-small); a <= small; a++ {
			want := wideRest(wide(1), m)
			for e := int64(0); e <= small; e++ {
				if got := Pow(a, e, m); got != want {
					t.Fatalf("Pow(%d, %d, %d) = %d, not %d", a, e, m, got, want)
				}
				want = wideRest(wide(want*a), m)
			}
		}
	}
}

// P1.3
func TestInverse(t *testing.T) {
	for _, x := range []struct {
		a, m, want int64
		ok         bool
	}{
		{3, 7, 5, true}, {5, 7, 3, true}, {10, 7, 5, true}, {-4, 7, 5, true}, {-1, 7, 6, true}, {1, 7, 1, true},
		{1, 1, 0, true}, {0, 1, 0, true}, {-5, 1, 0, true}, {math.MinInt64, 1, 0, true}, {math.MaxInt64, 1, 0, true},
		{4, 6, 0, false}, {0, 5, 0, false}, {5, 5, 0, false}, {-10, 5, 0, false}, {0, 2, 0, false},
		{3, 0, 0, false}, {1, 0, 0, false}, {0, 0, 0, false}, {1, -1, 0, false}, {3, -7, 0, false}, {1, math.MinInt64, 0, false},
		{3, 1<<62 + 1, 0, false}, {1, 1<<62 + 1, 0, false}, {1, math.MaxInt64, 0, false},
		{1, 1 << 62, 1, true}, {-1, 1 << 62, 1<<62 - 1, true}, {1<<62 - 1, 1 << 62, 1<<62 - 1, true}, {3, 1 << 62, 3074457345618258603, true},
		{2, 1 << 62, 0, false}, {math.MinInt64, 1 << 62, 0, false}, {math.MaxInt64, 1 << 62, 1<<62 - 1, true},
		{2, 1<<62 - 1, 1 << 61, true},
	} {
		if got, ok := Inverse(x.a, x.m); got != x.want || ok != x.ok {
			t.Errorf("Inverse(%d, %d) = %d, %v, not %d, %v", x.a, x.m, got, ok, x.want, x.ok)
		}
	}
}

func TestInverseOfEdges(t *testing.T) {
	each(func(a, m, _ int64) {
		want, wantOK := int64(0), false
		if holdsModulus(m) {
			// A modulus of 1 leaves 0 of every product, and 0 of 1: 0 is the inverse there.
			wantOK = m == 1 || new(big.Int).GCD(nil, nil, wide(wideRest(wide(a), m)), wide(m)).Int64() == 1
			if wantOK && m > 1 {
				want = new(big.Int).ModInverse(wide(wideRest(wide(a), m)), wide(m)).Int64()
			}
		}
		if got, ok := Inverse(a, m); got != want || ok != wantOK {
			t.Fatalf("Inverse(%d, %d) = %d, %v, not %d, %v", a, m, got, ok, want, wantOK)
		}
	})
}

// The number from 0 to m - 1 that does it, by trying them all.
func TestInverseByItsWords(t *testing.T) {
	for m := int64(1); m <= small; m++ {
		for a := int64(-2 * small); a <= 2*small; a++ {
			want, wantOK := int64(0), false
			for x := m - 1; x >= 0; x-- {
				if (a*x-1)%m == 0 {
					want, wantOK = x, true
				}
			}
			if got, ok := Inverse(a, m); got != want || ok != wantOK {
				t.Errorf("Inverse(%d, %d) = %d, %v, not %d, %v", a, m, got, ok, want, wantOK)
			}
		}
	}
}

// P1.4
func TestLcm(t *testing.T) {
	for _, x := range []struct {
		a, b, most, want int64
		ok               bool
	}{
		{4, 6, 13, 12, true}, {4, 6, 12, 12, true}, {4, 6, 11, 0, false}, {6, 4, 12, 12, true}, {1, 1, 1, 1, true}, {7, 7, 7, 7, true}, {5, 7, 35, 35, true}, {5, 7, 34, 0, false},
		{0, 6, 99, 0, false}, {6, 0, 99, 0, false}, {0, 0, 99, 0, false}, {-4, 6, 99, 0, false}, {4, -6, 99, 0, false}, {-4, -6, 99, 0, false},
		{math.MinInt64, 6, 99, 0, false}, {6, math.MinInt64, 99, 0, false}, {math.MinInt64, math.MinInt64, math.MaxInt64, 0, false},
		{1, 1, 0, 0, false}, {1, 1, -1, 0, false}, {2, 2, -5, 0, false}, {1, 1, math.MinInt64, 0, false}, {4, 6, math.MinInt64, 0, false},
		{1 << 40, 3, math.MaxInt64, 3 << 40, true}, {1 << 62, 3, math.MaxInt64, 0, false}, {1 << 62, 1 << 61, math.MaxInt64, 1 << 62, true}, {1 << 62, 1 << 62, 1<<62 - 1, 0, false},
		{math.MaxInt64, math.MaxInt64, math.MaxInt64, math.MaxInt64, true}, {math.MaxInt64, 1, math.MaxInt64, math.MaxInt64, true}, {1, math.MaxInt64, math.MaxInt64, math.MaxInt64, true},
		{math.MaxInt64, 49, math.MaxInt64, math.MaxInt64, true}, {math.MaxInt64, 1, math.MaxInt64 - 1, 0, false}, {math.MaxInt64, math.MaxInt64 - 1, math.MaxInt64, 0, false},
		{math.MaxInt64, 2, math.MaxInt64, 0, false}, {1 << 32, 1<<32 + 1, math.MaxInt64, 0, false},
	} {
		if got, ok := Lcm(x.a, x.b, x.most); got != x.want || ok != x.ok {
			t.Errorf("Lcm(%d, %d, %d) = %d, %v, not %d, %v", x.a, x.b, x.most, got, ok, x.want, x.ok)
		}
	}
}

func TestLcmOfEdges(t *testing.T) {
	each(func(a, b, most int64) {
		want, wantOK := int64(0), false
		if a >= 1 && b >= 1 {
			divisor := new(big.Int).GCD(nil, nil, wide(a), wide(b))
			least := new(big.Int).Mul(wide(a), wide(b))
			least.Quo(least, divisor)
			if least.Cmp(wide(most)) <= 0 {
				want, wantOK = least.Int64(), true
			}
		}
		if got, ok := Lcm(a, b, most); got != want || ok != wantOK {
			t.Fatalf("Lcm(%d, %d, %d) = %d, %v, not %d, %v", a, b, most, got, ok, want, wantOK)
		}
	})
}

// The least that both divide, by trying them all.
func TestLcmByItsWords(t *testing.T) {
	for a := int64(1); a <= small; a++ {
		for b := int64(1); b <= small; b++ {
			want := int64(1)
			for want%a != 0 || want%b != 0 {
				want++
			}
			if got, ok := Lcm(a, b, math.MaxInt64); got != want || !ok {
				t.Errorf("Lcm(%d, %d) = %d, %v, not %d", a, b, got, ok, want)
			}
			if got, ok := Lcm(a, b, want-1); got != 0 || ok {
				t.Errorf("Lcm(%d, %d, %d) = %d, %v, not 0, false", a, b, want-1, got, ok)
			}
		}
	}
}

// Rule 8: the same is answered whenever the same is asked, whatever was asked between.
func TestAnswersHangOnArguments(t *testing.T) {
	answers := func(a, b, c int64) [7]any {
		inverse, found := Inverse(a, b)
		multiple, fits := Lcm(a, b, c)
		return [7]any{Gcd(a, b), Mul(a, b, c), Pow(a, b, c), inverse, found, multiple, fits}
	}
	first := answers(12, 35, 1<<62-1)
	each(func(a, b, c int64) { answers(a, b, c) })
	if again := answers(12, 35, 1<<62-1); again != first {
		t.Errorf("%v, and then %v", first, again)
	}
}
