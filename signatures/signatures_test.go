// Package signatures holds the layers' packages to the calls that the chapters list: a call with another signature doesn't build.
package signatures

import (
	"testing"

	"diapason/api"
	"diapason/cache"
	"diapason/chirp"
	"diapason/console"
	"diapason/cost"
	"diapason/cplx"
	"diapason/dd"
	"diapason/eft"
	"diapason/exec"
	"diapason/fft"
	"diapason/field"
	"diapason/index"
	"diapason/kernel"
	"diapason/mod"
	"diapason/model"
	"diapason/multi"
	"diapason/order"
	"diapason/prime"
	"diapason/real"
	"diapason/run"
	"diapason/search"
	"diapason/shape"
	"diapason/text"
	"diapason/tree"
	"diapason/trig"
)

// Layers 1 to 5.
var (
	_ func(a, b int64) int64                  = mod.Gcd
	_ func(a, b, m int64) int64               = mod.Mul
	_ func(a, e, m int64) int64               = mod.Pow
	_ func(a, m int64) (int64, bool)          = mod.Inverse
	_ func(a, b, most int64) (int64, bool)    = mod.Lcm
	_ func(n int64) bool                      = prime.Is
	_ func(n int64) []prime.Power             = prime.Factor
	_ func(a, n int64) int64                  = prime.Order
	_ func(p int64) int64                     = prime.Root
	_ func(a, b float64) (s, e float64)       = eft.Sum
	_ func(a float64) (hi, lo float64)        = eft.Split
	_ func(a, b float64) (p, e float64)       = eft.Prod
	_ func(a float64) bool                    = eft.Mild
	_ func(a float64, k int) float64          = eft.Scale
	_ func(l []float64) (int, bool)           = eft.Top
	_ func(a, b float64) dd.Num               = dd.New
	_ func(a, b dd.Num) dd.Num                = dd.Num.Add
	_ func(a dd.Num) dd.Num                   = dd.Num.Neg
	_ func(a, b dd.Num) dd.Num                = dd.Num.Mul
	_ func(a, b dd.Num) dd.Num                = dd.Num.Quo
	_ func(a dd.Num) float64                  = dd.Num.Float
	_ func(x dd.Num, l ...dd.Num) dd.Num      = dd.Poly
	_ func(k, n int64) (c, s dd.Num)          = trig.Exact
	_ func(k, n int64) (c, s float64)         = trig.Turn
	_ func(k, n int64) (octant int, at int64) = trig.Octant
)

// Layers 6 to 8.
var (
	_ func(a, b cplx.C) cplx.C                                  = cplx.C.Add
	_ func(a, b cplx.C) cplx.C                                  = cplx.C.Sub
	_ func(a, b cplx.C) cplx.C                                  = cplx.C.Mul
	_ func(a cplx.C) cplx.C                                     = cplx.C.Conj
	_ func(a cplx.C, quarters int) cplx.C                       = cplx.C.Turn
	_ func(l []cplx.C) (int, api.Errno)                         = cplx.Guard
	_ func(re, im []float64) ([]cplx.C, api.Errno)              = cplx.Pairs
	_ func(l []cplx.C) (re, im []float64)                       = cplx.Parts
	_ func(k int, radices ...int) ([]int, api.Errno)            = index.Digits
	_ func(digits []int, radices ...int) (int, api.Errno)       = index.Number
	_ func(radices ...int) ([]int, api.Errno)                   = index.Reverse
	_ func(l []item, rows, columns int) api.Errno               = index.Transpose[item]
	_ func(l []item, from, step, count int) ([]item, api.Errno) = index.Gather[item]
	_ func(to, from []item, offset, stride int) api.Errno       = index.Scatter[item]
	_ func(p []int) ([][]int, api.Errno)                        = index.Cycles
	_ func(n int) ([]int, api.Errno)                            = chirp.Squares
	_ func(p int) ([]int, api.Errno)                            = chirp.Powers
	_ func(p int) ([]int, api.Errno)                            = chirp.Logs
	_ func(n int) (int, api.Errno)                              = chirp.Padded
	_ func(a, b []int64, m int64) ([]int64, api.Errno)          = chirp.Convolve
)

// Layers 9 to 16.
var (
	_ func(p tree.Plan) string                                      = tree.Show
	_ func(p tree.Plan) int                                         = tree.Nodes
	_ func(p, q tree.Plan) bool                                     = tree.Equal
	_ func(p tree.Plan) func(yield func(int, tree.Plan) bool)       = tree.Each
	_ func(s string) (tree.Plan, int, api.Errno)                    = text.Parse
	_ func(s string) bool                                           = text.Starts
	_ func(p tree.Plan, n int) (int, api.Errno)                     = shape.Check
	_ func(p tree.Plan) []int                                       = shape.Wants
	_ func(p tree.Plan) (int64, api.Errno)                          = order.Order
	_ func(p tree.Plan) []int64                                     = order.Roots
	_ func(p tree.Plan) (int64, api.Errno)                          = cost.Cost
	_ func(p tree.Plan) (int64, api.Errno)                          = cost.Coef
	_ func(p tree.Plan, kids ...int64) int64                        = cost.Own
	_ func() *search.Searcher                                       = search.New
	_ func(s *search.Searcher, n int) (tree.Plan, int64, api.Errno) = (*search.Searcher).Best
	_ func(s *search.Searcher) int                                  = (*search.Searcher).Known
	_ func(s *search.Searcher)                                      = (*search.Searcher).Forget
	_ func(most int) *cache.Cache                                   = cache.New
	_ func(c *cache.Cache, n, sign int) ([]cplx.C, api.Errno)       = (*cache.Cache).Table
	_ func(c *cache.Cache) []cache.Key                              = (*cache.Cache).Kept
	_ func(c *cache.Cache) (found, made int)                        = (*cache.Cache).Counts
	_ func(order int64) (field.Field, api.Errno)                    = field.Make
	_ func(f field.Field, a int64) int64                            = field.Field.Rest
	_ kernel.Ring[int64]                                            = field.Field{}
)

// Layers 17 to 20.
var (
	_ func(r kernel.Ring[item], x []item, sign int) []item                           = kernel.Direct[item]
	_ func(r kernel.Ring[item], x []item, rows, columns, sign int) []item            = kernel.Twist[item]
	_ func(r kernel.Ring[item], a, b []item) []item                                  = kernel.Convolve[item]
	_ func(r kernel.Ring[item], a, b []item) []item                                  = kernel.Times[item]
	_ func(r kernel.Ring[item], a []item, n int64) []item                            = kernel.Over[item]
	_ func(r kernel.Ring[item], a []item) item                                       = kernel.Sum[item]
	_ func(r kernel.Ring[item], p tree.Plan, x []item, sign int) ([]item, api.Errno) = run.Run[item]
	_ func(r kernel.Ring[item], p tree.Plan, y []item, sign int) ([]item, api.Errno) = run.Back[item]
	_ func(p tree.Plan, x []int64, sign int) ([]int64, field.Field, api.Errno)       = model.Exact
	_ func(p, q tree.Plan, x []int64, sign int) (bool, api.Errno)                    = model.Agree
	_ func(p tree.Plan, x, y []int64) (int64, field.Field, api.Errno)                = model.Parseval
	_ func(p tree.Plan, x []cplx.C, sign int) ([]cplx.C, api.Errno)                  = exec.Execute
	_ func(p tree.Plan, y []cplx.C, sign int) ([]cplx.C, api.Errno)                  = exec.Inverse
	_ func(p tree.Plan) (float64, api.Errno)                                         = exec.Bound
	_ func(x []cplx.C) (float64, int)                                                = exec.Length
)

// Layers 21 to 24.
var (
	_ func(n int) int                                                                 = real.Wants
	_ func(p tree.Plan, x []float64) ([]cplx.C, api.Errno)                            = real.Forward
	_ func(p tree.Plan, h []cplx.C, n int) ([]float64, api.Errno)                     = real.Backward
	_ func(h []cplx.C, n int) ([]cplx.C, api.Errno)                                   = real.Whole
	_ func(dims []int) (int, api.Errno)                                               = multi.Size
	_ func(dims, at []int) (int, api.Errno)                                           = multi.Place
	_ func(plans []tree.Plan, dims []int, x []cplx.C, sign int) ([]cplx.C, api.Errno) = multi.Transform
	_ func(plans []tree.Plan) (float64, api.Errno)                                    = multi.Bound
	_ func() *fft.FFT                                                                 = fft.New
	_ func(f *fft.FFT, n int) (tree.Plan, api.Errno)                                  = (*fft.FFT).Plan
	_ func(f *fft.FFT, x []cplx.C) ([]cplx.C, api.Errno)                              = (*fft.FFT).Forward
	_ func(f *fft.FFT, y []cplx.C) ([]cplx.C, api.Errno)                              = (*fft.FFT).Inverse
	_ func(f *fft.FFT, x []float64) ([]cplx.C, api.Errno)                             = (*fft.FFT).Real
	_ func(f *fft.FFT, h []cplx.C, n int) ([]float64, api.Errno)                      = (*fft.FFT).Unreal
	_ func(f *fft.FFT, dims []int, x []cplx.C, sign int) ([]cplx.C, api.Errno)        = (*fft.FFT).Multi
	_ func(f *fft.FFT, a, b []cplx.C) ([]cplx.C, api.Errno)                           = (*fft.FFT).Convolve
	_ func(line string) string                                                        = console.Do
	_ func(text string) (string, api.Errno)                                           = console.Run
)

// The fields of the types that the chapters show.
var (
	_ = struct {
		P int64
		E int
	}(prime.Power{})
	_ = struct{ Hi, Lo float64 }(dd.Num{})
	_ = struct{ Re, Im float64 }(cplx.C{})
	_ = struct {
		Kind tree.Kind
		N, R int
		Kids []tree.Plan
	}(tree.Plan{})
	_ = struct{ N, Sign int }(cache.Key{})
	_ = struct{ Q, W, N int64 }(field.Field{})
)

// item is an element that no package knows: the generic calls are asked for it.
type item struct{}

type ring struct{}

func (ring) Zero() item                { return item{} }
func (ring) Add(a, b item) item        { return item{} }
func (ring) Sub(a, b item) item        { return item{} }
func (ring) Mul(a, b item) item        { return item{} }
func (ring) Over(a item, n int64) item { return item{} }
func (ring) Root(k, n int64) item      { return item{} }

// These six methods are all that a ring must have.
var _ kernel.Ring[item] = ring{}

func TestKinds(t *testing.T) {
	got := [5]tree.Kind{tree.Leaf, tree.Radix, tree.Split, tree.Rader, tree.Blue}
	if want := [5]tree.Kind{0, 1, 2, 3, 4}; got != want {
		t.Errorf("%v, not %v", got, want)
	}
}

func TestErrors(t *testing.T) {
	for number, e := range map[int]api.Errno{
		0: api.OK, 1: api.ErrNil, 2: api.ErrArg, 3: api.ErrSize, 4: api.ErrLen, 5: api.ErrValue, 6: api.ErrSign, 7: api.ErrShape,
		10: api.ErrLong, 11: api.ErrText,
		20: api.ErrKind, 21: api.ErrN, 22: api.ErrLeaf, 23: api.ErrRadix, 24: api.ErrPower, 25: api.ErrPrime, 26: api.ErrKids, 27: api.ErrMany, 28: api.ErrOrder, 29: api.ErrNone,
		60: api.ErrCommand, 61: api.ErrFields, 62: api.ErrNumber, 63: api.ErrFull,
	} {
		if int(e) != number {
			t.Errorf("error %d has the number %d", number, int(e))
		}
	}
	var asValue error = api.ErrFull
	if got := asValue.Error(); got != "error 63" {
		t.Errorf("%q", got)
	}
}

func TestLimits(t *testing.T) {
	got := [12]int64{api.MaxMod, api.MaxFactor, api.MaxN, api.MaxInner, api.MaxLeaf, api.MaxNodes, api.MaxText, api.MaxOrder, api.MaxCache, api.MaxDims, api.MaxScript, api.MaxAnswer}
	want := [12]int64{4611686018427387904, 1099511627776, 16384, 32768, 32, 64, 4096, 1099511627776, 65536, 8, 65536, 131072}
	if got != want {
		t.Errorf("%v, not %v", got, want)
	}
	if cost.Most != 1<<50 {
		t.Errorf("cost.Most is %d", int64(cost.Most))
	}
}
