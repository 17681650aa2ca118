package index

import (
	"math"
	"math/bits"
	"math/rand/v2"
	"slices"
	"testing"

	"diapason/api"
)

const mostProduct = 1 << 20

func chance() *rand.Rand { return rand.New(rand.NewPCG(1, 2)) }

func twos(count int) []int { return slices.Repeat([]int{2}, count) }

// goodRadices: such that are radices, up to the bounds, with their products.
var goodRadices = []struct {
	radices []int
	product int
}{
	{nil, 1}, {[]int{}, 1}, {[]int{2}, 2}, {[]int{3}, 3}, {[]int{2, 3}, 6}, {[]int{3, 2}, 6}, {[]int{2, 3, 2}, 12}, {[]int{7, 2, 5}, 70}, {[]int{4, 4, 4}, 64}, {[]int{2, 3, 4, 5, 6}, 720},
	{[]int{1023, 1025}, mostProduct - 1}, {[]int{1 << 10, 1 << 10}, mostProduct}, {[]int{mostProduct}, mostProduct}, {[]int{mostProduct / 2, 2}, mostProduct}, {[]int{2, mostProduct / 2}, mostProduct}, {twos(19), mostProduct / 2}, {twos(20), mostProduct},
}

// badRadices: such that aren't; also those whose products come back into the bounds when they go over.
var badRadices = [][]int{
	{1}, {0}, {-1}, {-2}, {math.MinInt}, {math.MaxInt}, {1, 2}, {2, 1}, {2, 0}, {2, 3, -4}, {-2, -3}, {0, 0}, {2, 3, 1, 2},
	{mostProduct + 1}, {mostProduct, 2}, {2, mostProduct}, {1024, 1025}, {1025, 1024}, {2, 2, mostProduct/4 + 1}, {1 << 10, 1 << 10, 2}, twos(21), twos(30), twos(31), twos(63), twos(64), twos(1000),
	{1 << 32, 1 << 32}, {1 << 62, 4}, {4, 1 << 62}, {3, 6148914691236517206}, {6148914691236517206, 3}, {math.MaxInt, math.MaxInt}, {math.MinInt, math.MinInt}, {math.MinInt, 2}, {1 << 16, 1 << 48, 5},
}

// digitsOf: the digits as their weights tell them.
func digitsOf(k int, radices []int) []int {
	digits := make([]int, len(radices))
	for i := range radices {
		weight := 1
		for _, r := range radices[:i] {
			weight *= r
		}
		digits[i] = k / weight % radices[i]
	}
	return digits
}

// P7.1
func TestDigits(t *testing.T) {
	if got, e := Digits(11, 2, 3, 2); e != api.OK || !slices.Equal(got, []int{1, 2, 1}) {
		t.Errorf("of 11: %v, %d", got, e)
	}
	for _, x := range goodRadices {
		for _, k := range someNumbers(x.product) {
			got, e := Digits(k, x.radices...)
			if want := digitsOf(k, x.radices); e != api.OK || !slices.Equal(got, want) {
				t.Fatalf("of %d by %v: %v, %d, not %v", k, x.radices, got, e, want)
			}
		}
	}
}

// someNumbers: of those from 0 below a bound all, if there are few, else those at the ends and some between.
func someNumbers(below int) []int {
	var l []int
	for k := range below {
		if k < 1000 || k >= below-1000 || k%997 == 0 {
			l = append(l, k)
		}
	}
	return l
}

// P7.1
func TestDigitsOfNoNumber(t *testing.T) {
	for _, x := range goodRadices {
		for _, k := range []int{-1, -2, -x.product, math.MinInt, x.product, x.product + 1, 2 * x.product, math.MaxInt} {
			if got, e := Digits(k, x.radices...); len(got) != 0 || e != api.ErrSize {
				t.Errorf("of %d by %v: %v, %d", k, x.radices, got, e)
			}
		}
	}
}

// P7.1: the radices' fault is told ahead of the number's.
func TestDigitsByNoRadices(t *testing.T) {
	for _, radices := range badRadices {
		for _, k := range []int{0, 1, -1, math.MaxInt, math.MinInt} {
			if got, e := Digits(k, radices...); len(got) != 0 || e != api.ErrArg {
				t.Errorf("of %d by %v: %v, %d", k, radices, got, e)
			}
		}
	}
}

// P7.1
func TestNumber(t *testing.T) {
	if got, e := Number([]int{1, 2, 1}, 2, 3, 2); e != api.OK || got != 11 {
		t.Errorf("of 1, 2, 1: %d, %d", got, e)
	}
	for _, x := range goodRadices {
		for _, k := range someNumbers(x.product) {
			digits := digitsOf(k, x.radices)
			if got, e := Number(digits, x.radices...); e != api.OK || got != k {
				t.Fatalf("of %v by %v: %d, %d, not %d", digits, x.radices, got, e, k)
			}
		}
	}
}

func checkNumberFault(t *testing.T, want api.Errno, digits []int, radices ...int) {
	t.Helper()
	if got, e := Number(digits, radices...); got != 0 || e != want {
		t.Errorf("of %v by %v: %d, %d, not 0, %d", digits, radices, got, e, want)
	}
}

// P7.1
func TestNumberOfNoDigits(t *testing.T) {
	for _, x := range goodRadices {
		for i, r := range x.radices {
			for _, bad := range []int{-1, -r, math.MinInt, r, r + 1, math.MaxInt} {
				digits := digitsOf(x.product-1, x.radices)
				digits[i] = bad
				checkNumberFault(t, api.ErrSize, digits, x.radices...)
			}
		}
		longer := append(digitsOf(0, x.radices), 0)
		checkNumberFault(t, api.ErrLen, longer, x.radices...)
		if len(x.radices) > 0 {
			checkNumberFault(t, api.ErrLen, longer[:len(x.radices)-1], x.radices...)
			checkNumberFault(t, api.ErrLen, nil, x.radices...)
		}
	}
}

// P7.1: the radices' fault, then the length's, then the digits'.
func TestNumberTellsTheFirstFault(t *testing.T) {
	for _, radices := range badRadices {
		checkNumberFault(t, api.ErrArg, make([]int, len(radices)), radices...)
		checkNumberFault(t, api.ErrArg, nil, radices...)
		checkNumberFault(t, api.ErrArg, slices.Repeat([]int{-1}, len(radices)), radices...)
		checkNumberFault(t, api.ErrArg, []int{-1, math.MaxInt}, radices...)
	}
	checkNumberFault(t, api.ErrLen, []int{-1}, 2, 3)
	checkNumberFault(t, api.ErrLen, []int{2, 3, 4}, 2, 3)
	checkNumberFault(t, api.ErrLen, []int{5})
}

// P7.2
func TestReverse(t *testing.T) {
	if got, e := Reverse(2, 3); e != api.OK || !slices.Equal(got, []int{0, 3, 1, 4, 2, 5}) {
		t.Errorf("by 2, 3: %v, %d", got, e)
	}
	if got, e := Reverse(2, 2, 2); e != api.OK || !slices.Equal(got, []int{0, 4, 2, 6, 1, 5, 3, 7}) {
		t.Errorf("by 2, 2, 2: %v, %d", got, e)
	}
	if got, e := Reverse(); e != api.OK || !slices.Equal(got, []int{0}) {
		t.Errorf("by none: %v, %d", got, e)
	}
	for _, x := range goodRadices {
		got, e := Reverse(x.radices...)
		if e != api.OK || len(got) != x.product {
			t.Fatalf("by %v: %d numbers, %d", x.radices, len(got), e)
		}
		turned := slices.Clone(x.radices)
		slices.Reverse(turned)
		for _, k := range someNumbers(x.product) {
			digits := digitsOf(got[k], turned)
			slices.Reverse(digits)
			if got[k] < 0 || got[k] >= x.product || !slices.Equal(digits, digitsOf(k, x.radices)) {
				t.Fatalf("by %v: %d goes to %d", x.radices, k, got[k])
			}
		}
	}
}

// P7.2: of twos it is the order of the bits, of one radix nothing is turned.
func TestReverseOfBits(t *testing.T) {
	got, _ := Reverse(twos(20)...)
	for k, to := range got {
		if want := int(bits.Reverse32(uint32(k)) >> 12); to != want {
			t.Fatalf("%d goes to %d, not %d", k, to, want)
		}
	}
	got, _ = Reverse(mostProduct)
	for k, to := range got {
		if to != k {
			t.Fatalf("%d goes to %d", k, to)
		}
	}
}

// P7.2
func TestReverseByNoRadices(t *testing.T) {
	for _, radices := range badRadices {
		if got, e := Reverse(radices...); len(got) != 0 || e != api.ErrArg {
			t.Errorf("by %v: %d numbers, %d", radices, len(got), e)
		}
	}
}

// Rule 4: radices and digits stay as they are, what lies behind them isn't read, and the answers are new lists.
func TestRadicesAreLeft(t *testing.T) {
	radices, digits := []int{2, 3, 2, -7}, []int{1, 2, 1, -9}
	first, _ := Digits(11, radices[:3]...)
	second, _ := Digits(11, radices[:3]...)
	first[0] = 5
	first = append(first, 6)
	if want := []int{1, 2, 1}; !slices.Equal(second, want) {
		t.Errorf("the digits became %v", second)
	}
	if got, e := Number(digits[:3], radices[:3]...); got != 11 || e != api.OK {
		t.Errorf("%d, %d", got, e)
	}
	turned, _ := Reverse(radices[:3]...)
	again, _ := Reverse(radices[:3]...)
	clear(turned)
	if want := []int{0, 6, 2, 8, 4, 10, 1, 7, 3, 9, 5, 11}; !slices.Equal(again, want) {
		t.Errorf("by 2, 3, 2: %v", again)
	}
	if !slices.Equal(radices, []int{2, 3, 2, -7}) || !slices.Equal(digits, []int{1, 2, 1, -9}) {
		t.Errorf("what was handed in became %v, %v", radices, digits)
	}
}

func counted(length int) []int {
	l := make([]int, length)
	for i := range l {
		l[i] = i
	}
	return l
}

// P7.3
func TestTranspose(t *testing.T) {
	words := []string{"a", "b", "c", "d", "e", "f"}
	if e := Transpose(words, 2, 3); e != api.OK || !slices.Equal(words, []string{"a", "d", "b", "e", "c", "f"}) {
		t.Errorf("of 2 rows: %v, %d", words, e)
	}
	for rows := 1; rows <= 24; rows++ {
		for columns := 1; columns <= 24; columns++ {
			checkTransposed(t, rows, columns)
		}
	}
	for _, x := range [][2]int{{1, 5000}, {5000, 1}, {512, 512}, {2, 4099}, {4099, 2}, {1023, 1025}} {
		checkTransposed(t, x[0], x[1])
	}
}

func checkTransposed(t *testing.T, rows, columns int) {
	t.Helper()
	l := counted(rows * columns)
	if e := Transpose(l, rows, columns); e != api.OK {
		t.Fatalf("of %d, %d: %d", rows, columns, e)
	}
	for r := range rows {
		for c := range columns {
			if l[c*rows+r] != r*columns+c {
				t.Fatalf("of %d, %d: at row %d, column %d stands %d", rows, columns, r, c, l[c*rows+r])
			}
		}
	}
}

func checkUntransposed(t *testing.T, want api.Errno, length, rows, columns int) {
	t.Helper()
	l := counted(length)
	if e := Transpose(l, rows, columns); e != want || !slices.Equal(l, counted(length)) {
		t.Errorf("%d by %d, %d: %v, %d, not %d", length, rows, columns, l, e, want)
	}
}

// P7.3: a refused list stays as it is.
func TestTransposeRefuses(t *testing.T) {
	for _, bad := range []int{0, -1, -2, -6, math.MinInt, math.MinInt + 1} {
		for _, length := range []int{0, 1, 6} {
			for _, other := range []int{0, 1, 6, -1, -3, math.MinInt, math.MaxInt} {
				checkUntransposed(t, api.ErrArg, length, bad, other)
				checkUntransposed(t, api.ErrArg, length, other, bad)
			}
		}
	}
	for length := range 30 {
		for rows := 1; rows < 32; rows++ {
			for columns := 1; columns < 32; columns++ {
				if rows*columns != length {
					checkUntransposed(t, api.ErrLen, length, rows, columns)
				}
			}
		}
	}
	// Products that go over, and would come back to the length.
	for _, x := range [][3]int{{0, 1 << 32, 1 << 32}, {0, 1 << 62, 4}, {0, 4, 1 << 62}, {2, 3, 6148914691236517206}, {2, 6148914691236517206, 3}, {1, math.MaxInt, math.MaxInt}, {4, 1<<62 + 1, 4}, {4, 4, 1<<62 + 1}, {6, math.MaxInt, 2}, {6, 3, 1 << 62}, {6, 1, math.MaxInt}, {6, math.MaxInt, 1}} {
		checkUntransposed(t, api.ErrLen, x[0], x[1], x[2])
	}
}

// item is an element that no package knows.
type item struct {
	name string
	at   [3]int
	next *item
}

// P7.3, P7.4: elements of any kind are moved as they are.
func TestElementsOfAnyKind(t *testing.T) {
	a, b := &item{name: "a"}, &item{name: "b"}
	items := []item{{"x", [3]int{1, 2, 3}, a}, {"y", [3]int{4}, b}, {}, {name: "z", next: a}}
	before := slices.Clone(items)
	if e := Transpose(items, 2, 2); e != api.OK || !slices.Equal(items, []item{before[0], before[2], before[1], before[3]}) {
		t.Errorf("%v, %d", items, e)
	}
	if got, e := Gather(items, 0, 3, 2); e != api.OK || !slices.Equal(got, []item{before[0], before[3]}) {
		t.Errorf("%v, %d", got, e)
	}
	pointers := []*item{a, nil, b, a}
	if e := Scatter(pointers, []*item{b, b}, 0, 3); e != api.OK || !slices.Equal(pointers, []*item{b, nil, b, b}) {
		t.Errorf("%v, %d", pointers, e)
	}
	none, over := math.Float64frombits(0x7ff0000000000001), math.Inf(1)
	floats := []float64{none, math.Copysign(0, -1), over, 1}
	if e := Transpose(floats, 2, 2); e != api.OK || math.Float64bits(floats[0]) != math.Float64bits(none) || floats[1] != over || !math.Signbit(floats[2]) || floats[3] != 1 {
		t.Errorf("%v, %d", floats, e)
	}
	tell := []func() int{func() int { return 1 }, func() int { return 2 }}
	if got, e := Gather(tell, 1, 1, 1); e != api.OK || got[0]() != 2 {
		t.Errorf("of functions: %d", e)
	}
	if e := Transpose([]any{1, "a", nil}, 3, 1); e != api.OK {
		t.Errorf("of any: %d", e)
	}
	empties := make([]struct{}, 1000)
	if e := Transpose(empties, 10, 100); e != api.OK {
		t.Errorf("of elements without a size: %d", e)
	}
	if got, e := Gather(empties, 999, math.MaxInt, 1); e != api.OK || len(got) != 1 {
		t.Errorf("of elements without a size: %d, %d", len(got), e)
	}
}

// strideArgs: all that are near a short list's ends, and those whose products or sums go over.
var strideArgs = []int{math.MinInt, math.MinInt + 1, -2, -1, 0, 1, 2, 3, 4, 5, 6, 7, 8, 1 << 31, 1 << 32, 1 << 61, 1<<61 + 1, 1 << 62, 1<<62 + 1, math.MaxInt - 2, math.MaxInt - 1, math.MaxInt}

// strideFault: the error as P7.4 tells it, reckoned in more bits than an int has.
func strideFault(length, offset, stride, count int) api.Errno {
	if offset < 0 || count < 0 || stride < 1 {
		return api.ErrArg
	}
	if count == 0 {
		return api.OK
	}
	hi, lo := bits.Mul64(uint64(count-1), uint64(stride))
	lo, over := bits.Add64(lo, uint64(offset), 0)
	if hi+over != 0 || lo >= uint64(length) {
		return api.ErrLen
	}
	return api.OK
}

func eachStride(try func(length, offset, stride, count int, want api.Errno)) {
	for length := range 8 {
		for _, offset := range strideArgs {
			for _, stride := range strideArgs {
				for _, count := range strideArgs {
					try(length, offset, stride, count, strideFault(length, offset, stride, count))
				}
			}
		}
	}
}

// P7.4
func TestGather(t *testing.T) {
	if got, e := Gather([]string{"a", "b", "c", "d", "e", "f", "g"}, 1, 2, 3); e != api.OK || !slices.Equal(got, []string{"b", "d", "f"}) {
		t.Errorf("%v, %d", got, e)
	}
	eachStride(func(length, offset, stride, count int, want api.Errno) {
		l := counted(length)
		got, e := Gather(l, offset, stride, count)
		fine := e == want && slices.Equal(l, counted(length))
		if want != api.OK {
			fine = fine && len(got) == 0
		} else {
			fine = fine && len(got) == count
			for i := 0; fine && i < count; i++ {
				fine = got[i] == offset+i*stride
			}
		}
		if !fine {
			t.Fatalf("of %d by %d, %d, %d: %v, %d, not %d", length, offset, stride, count, got, e, want)
		}
	})
}

// P7.4
func TestScatter(t *testing.T) {
	l := counted(7)
	if e := Scatter(l, []int{70, 80}, 2, 3); e != api.OK || !slices.Equal(l, []int{0, 1, 70, 3, 4, 80, 6}) {
		t.Errorf("%v, %d", l, e)
	}
	eachStride(func(length, offset, stride, count int, want api.Errno) {
		if count < 0 || count > 8 {
			return
		}
		to, from, wanted := counted(length), make([]int, count), counted(length)
		for i := range from {
			from[i] = 100 + i
			if want == api.OK {
				wanted[offset+i*stride] = 100 + i
			}
		}
		given := slices.Clone(from)
		if e := Scatter(to, from, offset, stride); e != want || !slices.Equal(to, wanted) || !slices.Equal(from, given) {
			t.Fatalf("of %d to %d by %d, %d: %v, %d, not %v, %d", count, length, offset, stride, to, e, wanted, want)
		}
	})
}

// P7.4: of nothing any place is right, also of an empty list.
func TestNothingIsMoved(t *testing.T) {
	for _, offset := range []int{0, 1, 7, math.MaxInt} {
		for _, stride := range []int{1, 2, math.MaxInt} {
			for _, l := range [][]int{nil, {}, {1, 2}} {
				if got, e := Gather(l, offset, stride, 0); len(got) != 0 || e != api.OK {
					t.Errorf("of %v by %d, %d: %v, %d", l, offset, stride, got, e)
				}
				if e := Scatter(l, nil, offset, stride); e != api.OK {
					t.Errorf("to %v by %d, %d: %d", l, offset, stride, e)
				}
			}
		}
	}
}

// P7.4: what was gathered comes back by Scatter, whatever else stands there.
func TestScatterOfGathered(t *testing.T) {
	r := chance()
	for range 2000 {
		l := r.Perm(1 + r.IntN(300))
		offset, stride := r.IntN(len(l)), 1+r.IntN(20)
		count := r.IntN((len(l)-1-offset)/stride + 2)
		got, e := Gather(l, offset, stride, count)
		if e != api.OK || len(got) != count {
			t.Fatalf("of %d by %d, %d, %d: %d, %d", len(l), offset, stride, count, len(got), e)
		}
		other := slices.Repeat([]int{-1}, len(l))
		if e := Scatter(other, got, offset, stride); e != api.OK {
			t.Fatalf("to %d by %d, %d of %d: %d", len(l), offset, stride, count, e)
		}
		for at, a := range other {
			moved := at >= offset && (at-offset)%stride == 0 && (at-offset)/stride < count
			if moved && a != l[at] || !moved && a != -1 {
				t.Fatalf("to %d by %d, %d of %d: %d at %d", len(l), offset, stride, count, a, at)
			}
		}
	}
}

// Rule 4: behind a list's length nothing is read or written, and what is gathered is new.
func TestListsAreNew(t *testing.T) {
	l := counted(10)
	if e := Transpose(l[:6], 2, 3); e != api.OK || !slices.Equal(l, []int{0, 3, 1, 4, 2, 5, 6, 7, 8, 9}) {
		t.Errorf("%v, %d", l, e)
	}
	if e := Transpose(l[:6], 5, 2); e != api.ErrLen {
		t.Errorf("behind the length: %d", e)
	}
	if got, e := Gather(l[:6], 0, 3, 3); len(got) != 0 || e != api.ErrLen {
		t.Errorf("behind the length: %v, %d", got, e)
	}
	if e := Scatter(l[:6], []int{-1, -2, -3}, 0, 3); e != api.ErrLen {
		t.Errorf("behind the length: %d", e)
	}
	got, _ := Gather(l[:6], 0, 1, 6)
	got[0] = -1
	got = append(got, -2)
	if !slices.Equal(l, []int{0, 3, 1, 4, 2, 5, 6, 7, 8, 9}) {
		t.Errorf("the list became %v", l)
	}
	l[1] = 30
	if want := []int{-1, 3, 1, 4, 2, 5, -2}; !slices.Equal(got, want) {
		t.Errorf("what was gathered became %v", got)
	}
}

// circlesOf: each number that is the least of those that it leads to, with those.
func circlesOf(p []int) [][]int {
	var circles [][]int
	for k := range p {
		circle := []int{k}
		for at := p[k]; at != k; at = p[at] {
			circle = append(circle, at)
		}
		if slices.Min(circle) == k {
			circles = append(circles, circle)
		}
	}
	return circles
}

func sameCircles(a, b [][]int) bool { return slices.EqualFunc(a, b, slices.Equal[[]int]) }

// P7.5
func TestCycles(t *testing.T) {
	for _, x := range []struct {
		p    []int
		want [][]int
	}{
		{nil, nil}, {[]int{}, nil}, {[]int{0}, [][]int{{0}}}, {[]int{1, 0, 2}, [][]int{{0, 1}, {2}}}, {[]int{0, 1, 2}, [][]int{{0}, {1}, {2}}}, {[]int{2, 0, 1}, [][]int{{0, 2, 1}}}, {[]int{2, 1, 4, 3, 0}, [][]int{{0, 2, 4}, {1}, {3}}}, {[]int{0, 3, 4, 1, 2}, [][]int{{0}, {1, 3}, {2, 4}}},
	} {
		if got, e := Cycles(x.p); e != api.OK || !sameCircles(got, x.want) {
			t.Errorf("of %v: %v, %d, not %v", x.p, got, e, x.want)
		}
	}
}

func isPermuted(l []int) bool {
	sorted := slices.Clone(l)
	slices.Sort(sorted)
	return slices.Equal(sorted, counted(len(l)))
}

// P7.5: of all short lists, permutations and others.
func TestCyclesOfAllShortLists(t *testing.T) {
	for length := range 6 {
		radices := slices.Repeat([]int{length + 2}, length)
		lists := 1
		for _, r := range radices {
			lists *= r
		}
		for k := range lists {
			p := digitsOf(k, radices)
			for i := range p {
				p[i]--
			}
			checkCycles(t, p)
		}
	}
}

func checkCycles(t *testing.T, p []int) {
	t.Helper()
	before := slices.Clone(p)
	var circles [][]int
	want := api.ErrArg
	if isPermuted(p) {
		circles, want = circlesOf(p), api.OK
	}
	if got, e := Cycles(p); e != want || !sameCircles(got, circles) {
		t.Fatalf("of %v: %v, %d, not %v, %d", p, got, e, circles, want)
	}
	if !slices.Equal(p, before) {
		t.Fatalf("%v became %v", before, p)
	}
}

// P7.5
func TestCyclesOfPermutationsByChance(t *testing.T) {
	r := chance()
	for range 1000 {
		p := r.Perm(r.IntN(100))
		checkCycles(t, p)
		if len(p) == 0 {
			continue
		}
		// No permutation any more: a number twice, or one beyond.
		for _, bad := range []int{len(p), -1, math.MinInt, math.MaxInt, p[0] + len(p), p[0] - len(p)} {
			q := slices.Clone(p)
			q[r.IntN(len(q))] = bad
			checkCycles(t, q)
		}
		q := slices.Clone(p)
		q[r.IntN(len(q))] = q[r.IntN(len(q))]
		checkCycles(t, q)
	}
}

// P7.5: long circles, and many of them.
func TestCyclesOfLongLists(t *testing.T) {
	const length = 1 << 19
	p := counted(length)
	got, e := Cycles(p)
	if e != api.OK || len(got) != length {
		t.Fatalf("of all that stay: %d, %d", len(got), e)
	}
	for k, circle := range got {
		if len(circle) != 1 || circle[0] != k {
			t.Fatalf("circle %d of all that stay is %v", k, circle)
		}
	}
	for i := range p {
		p[i] = (i + length - 1) % length
	}
	got, e = Cycles(p)
	if e != api.OK || len(got) != 1 || len(got[0]) != length {
		t.Fatalf("of one circle: %d, %d", len(got), e)
	}
	for i, at := range got[0] {
		if at != (length-i)%length {
			t.Fatalf("place %d of one circle is %d", i, at)
		}
	}
}

// Rule 4: no circle shares memory with another, with the permutation, or with a later answer.
func TestCirclesAreNew(t *testing.T) {
	p := []int{1, 0, 2, 4, 5, 3, 0}
	got, _ := Cycles(p[:6])
	again, _ := Cycles(p[:6])
	for i := range got {
		got[i] = append(got[i], -1)
	}
	if want := [][]int{{0, 1, -1}, {2, -1}, {3, 4, 5, -1}}; !sameCircles(got, want) {
		t.Errorf("the circles became %v", got)
	}
	got[0][0], got[1][0] = -2, -3
	if want := [][]int{{0, 1}, {2}, {3, 4, 5}}; !sameCircles(again, want) {
		t.Errorf("the second answer became %v", again)
	}
	if !slices.Equal(p, []int{1, 0, 2, 4, 5, 3, 0}) {
		t.Errorf("the permutation became %v", p)
	}
}
