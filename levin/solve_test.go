package levin_test

import (
	"math"
	"math/big"
	"slices"
	"testing"

	"madrigal/api"
	"madrigal/levin"
	"madrigal/lpc"
)

func mustSolve(t *testing.T, what string, r, want []int64) {
	t.Helper()
	if a, e := levin.Solve(r); e != api.OK || !slices.Equal(a, want) {
		t.Fatalf("P12.1: %s: Solve(%d): %d, %d, want %d", what, r, a, e, want)
	}
}

// mustSolveApart holds Solve against the second reading, and tells what was met.
func mustSolveApart(t *testing.T, what string, r []int64) *climb {
	t.Helper()
	c := solveApart(r)
	mustSolve(t, what, r, c.answer)
	if len(c.answer) != len(r)-1 || !lpc.Stable(c.answer) {
		t.Fatalf("P12.1: %s: Solve(%d): %d is no filter that dies away", what, r, c.answer)
	}
	return c
}

func mustNotSolve(t *testing.T, r []int64) {
	t.Helper()
	if a, e := levin.Solve(r); e != api.EARG || a != nil {
		t.Fatalf("P12.1: Solve of %d numbers: %d, %d, want EARG", len(r), a, e)
	}
}

func TestSolveByHand(t *testing.T) {
	for _, c := range solved {
		mustSolve(t, c.what, c.r, c.want)
		if s := solveApart(c.r); !slices.Equal(s.answer, c.want) {
			t.Errorf("P12.1: %s: %d is read in two ways: %d", c.what, c.r, s.answer)
		}
	}
	if a, e := levin.Solve([]int64{100, 50}); e != api.OK || len(a) != 1 || a[0] < 2040 || a[0] > 2048 {
		t.Errorf("P12.1: the chapter's example: %d, %d", a, e)
	}
}

// sums are n numbers like those of a sound: each is less than the one ahead by a part of it.
func sums(first int64, n int) []int64 {
	r := make([]int64, n)
	for k := range r {
		r[k] = first
		first -= first / 9
	}
	return r
}

func TestEdgesOfSolve(t *testing.T) {
	for n := 2; n <= 33; n++ {
		mustSolve(t, "noughts", make([]int64, n), make([]int64, n-1))
		mustSolve(t, "one number and noughts", only(5, 0, n), make([]int64, n-1))
		for _, first := range []int64{1000, 1 << 29, 1 << 35, 1 << 50} {
			mustSolveApart(t, "each less than the one ahead", sums(first, n))
		}
	}
	for _, n := range []int{0, 1, 34, 35, 64, 66, 961, 1<<16 + 2} {
		mustNotSolve(t, make([]int64, n))
		mustNotSolve(t, sums(1<<40, n))
		mustNotSolve(t, repeat(-1, n))
	}
	mustNotSolve(t, nil)
}

// Where r_0 is below 1 there is no filter, whatever stands behind it.
func TestNothingToSolve(t *testing.T) {
	firsts := []int64{math.MinInt64, math.MinInt64 + 1, -1 << 62, -1 << 41, -1 << 32, -1<<32 + 1, -1 << 30, -1 << 29, -1000, -2, -1, 0}
	for _, first := range firsts {
		for n := 2; n <= 33; n++ {
			for _, v := range append([]int64{first, -first, -1, 0, 1, 1000, -1 << 29}, far...) {
				r := repeat(v, n)
				r[0] = first
				mustSolve(t, "r_0 below 1", r, make([]int64, n-1))
			}
		}
		mustNotSolve(t, []int64{first})
		mustNotSolve(t, append([]int64{first}, repeat(5, 33)...))
	}
}

// firstNumbers are those where r_0 is doubled or halved once more, and those about its bound.
func firstNumbers() []int64 {
	l := []int64{1, 2, 3, 5, 511, 1000, 1023, 1024, 1025, math.MaxInt64 - 1, math.MaxInt64}
	for bits := 27; bits < 63; bits++ {
		l = append(l, 1<<bits-2, 1<<bits-1, 1<<bits, 1<<bits+1, 1<<bits+2)
	}
	return l
}

// Each r_0, with others that are parts of it, as much as it, and more.
func TestFirstNumbers(t *testing.T) {
	met := map[string]int{}
	for _, first := range firstNumbers() {
		bound := within(first, 1, 1<<41)
		for _, behind := range [][]int64{
			{bound / 2}, {bound}, {-bound}, {-bound / 2}, {1}, {-1}, {math.MinInt64}, {math.MaxInt64},
			{bound - bound/1000, bound - bound/250, bound - bound/100, bound - bound/60}, {-bound + bound/2000, bound - bound/500, -bound + bound/200},
			{bound, bound - 1, -bound, bound / 3, -bound / 5, bound - 3, bound / 7}, {bound + 1, bound + 2, bound + 3, bound - 1, -bound - 1, -bound - 2, bound},
			{-1, 1, -2, 2, -3, 3, -4, 4, -5, 5, -6, 6}, repeat(-1<<41-1, 12), {first, -first, first - 1, 1 - first}, slices.Repeat([]int64{1 << 41, -1 << 41, 1<<41 + 1}, 5),
		} {
			c := mustSolveApart(t, "each r_0", append([]int64{first}, behind...))
			if c.doubled > 0 {
				met["doubled"]++
			}
			if c.halved > 0 {
				met["halved"]++
			}
			if c.doubled+c.halved == 0 {
				met["neither"]++
			}
			if c.full {
				met["kept at 2^50"]++
			}
		}
	}
	for _, what := range []string{"doubled", "halved", "neither", "kept at 2^50"} {
		if met[what] < 30 {
			t.Errorf("P12.1: only %d times: %s", met[what], what)
		}
	}
}

// What is beyond 2^41 is as 2^41, on both sides, at each place, with an r_0 that is doubled, one that stays, and one that is halved.
func TestSumsBeyond(t *testing.T) {
	for _, first := range []int64{1, 5, 1<<20 + 3, 1<<29 - 1, 1 << 29, 1<<30 + 1, 1<<40 + 1, 1<<41 - 1, 1 << 41} {
		for n := 2; n <= 8; n++ {
			for k := range n {
				for _, v := range far {
					r, s := sums(first, n), sums(first, n)
					r[k], s[k] = v, within(v, -1<<41, 1<<41)
					if k == 0 && v < 1 {
						continue
					}
					c := solveApart(s)
					mustSolve(t, "one at the edge", s, c.answer)
					mustSolve(t, "one beyond", r, c.answer)
				}
			}
		}
	}
}

// As long as nothing is bounded, what is doubled is told alike: a louder sound has the same filter.
func TestSolveOfLouder(t *testing.T) {
	for seed := uint32(1); seed <= 60; seed++ {
		x := driven(noise(seed, 300), []int64{int64(seed*211%7000) - 3500, int64(seed*97%3000) - 2000})
		for k := range x {
			x[k] = within(x[k], -7000, 7000)
		}
		r, _ := levin.Auto(x, int(1+seed%32))
		want := mustSolveApart(t, "a sound", r).answer
		for _, shift := range []uint{1, 2} {
			louder := all(x, func(v int64) int64 { return v << shift })
			s, _ := levin.Auto(louder, int(1+seed%32))
			if s[0] >= 1<<30 {
				mustSolveApart(t, "a louder sound, which is halved", s)
				continue
			}
			mustSolve(t, "a louder sound", s, want)
		}
		turned, _ := levin.Auto(all(x, func(v int64) int64 { return -v }), int(1+seed%32))
		mustSolve(t, "a sound with its signs turned", turned, want)
		for ; r[0] < 1<<28; r = all(r, func(v int64) int64 { return 2 * v }) {
			mustSolve(t, "sums that are doubled", r, want)
		}
	}
}

// toward is the t for which k is the quotient, as far as e is great enough.
func toward(k int64, e *big.Int) int64 {
	up := down(times(whole(-k), e), shifted(24))
	return -up.Int64()
}

// led is r that goes up by the t that are told it: r_0 is from 2^29 to 2^30 - 1, so that nothing is doubled or halved.
func led(first int64, steps int, next func(m int, e *big.Int) int64) []int64 {
	r := []int64{first}
	c := begun(r)
	for m := range steps {
		v := c.reached().Int64() + next(m, c.e)
		r = append(r, v)
		c.r = append(c.r, bounded(whole(v), shifted(41)))
		c.step()
	}
	return r
}

// ledBy goes up by these k, and then by small ones.
func ledBy(first int64, more int, ks ...int64) []int64 {
	return led(first, len(ks)+more, func(m int, e *big.Int) int64 {
		if m < len(ks) {
			return toward(ks[m], e)
		}
		return toward(int64(m*m*7919%8001-4000)*1000, e)
	})
}

// A k at its bounds, within them and beyond, as the first number and behind others, with others behind it.
func TestKAtItsBounds(t *testing.T) {
	const most = 16760438
	for _, first := range []int64{1 << 29, 1<<29 + 1, 600000001, 777777777, 1000000007, 1<<30 - 1} {
		for _, ahead := range [][]int64{{}, {5000000}, {-9000000, 3000000}, {8000000, -8000000, 8000000, 12345}} {
			for more := range 6 {
				for d := int64(-2); d <= 2; d++ {
					high := mustSolveApart(t, "k at its bound", ledBy(first, more, append(slices.Clone(ahead), most+d)...))
					low := mustSolveApart(t, "k at its bound below 0", ledBy(first, more, append(slices.Clone(ahead), -most-d)...))
					beyond, at := 0, 0
					if d > 0 {
						beyond = 1
					}
					if d == 0 {
						at = 1
					}
					if high.kHigh < beyond || high.kTop < at || low.kLow < beyond || low.kFoot < at {
						t.Fatalf("the way up does not meet what it is led to: %d and %d beyond, %d and %d at a bound", high.kHigh, low.kLow, high.kTop, low.kFoot)
					}
				}
				for _, v := range []int64{1 << 24, 1<<24 + 1, 1 << 25, 1 << 26} {
					mustSolveApart(t, "k beyond its bound", ledBy(first, more, append(slices.Clone(ahead), v)...))
					mustSolveApart(t, "k beyond its bound below 0", ledBy(first, more, append(slices.Clone(ahead), -v)...))
				}
			}
		}
	}
}

// Each k of a filter of one number: the answer is it to the nearest, in the format 12.
func TestEveryNumberOfOne(t *testing.T) {
	for want := int64(-4090); want <= 4090; want++ {
		for _, c := range []struct{ k, want int64 }{{want*4096 - 2049, want - 1}, {want*4096 - 2048, want}, {want * 4096, want}, {want*4096 + 2047, want}, {want*4096 + 2048, want + 1}} {
			if c.k >= -16754687 && c.k < 16758784 {
				mustSolve(t, "one number", ledBy(536870912, 0, c.k), []int64{c.want})
			}
		}
	}
}

// All of the old numbers are meant where new ones are made, in either half and in the middle: two great ones in a row, of all signs.
func TestOldNumbers(t *testing.T) {
	for n := 1; n <= 9; n++ {
		for signs := range 1 << n {
			ks := make([]int64, n)
			for k := range ks {
				ks[k] = (int64(signs>>k&1)*2 - 1) * (3000000 + 777777*int64(k))
			}
			mustSolveApart(t, "great ones in a row", ledBy(700000000+int64(signs), 0, ks...))
		}
	}
	// by 1/2 each: 1/2, then 1/4 1/2, then 0 3/8 1/2, then -1/4 3/16 1/2 1/2
	half := int64(1 << 23)
	mustSolve(t, "halves", ledBy(1<<29, 0, half), []int64{2048})
	mustSolve(t, "halves", ledBy(1<<29, 0, half, half), []int64{1024, 2048})
	mustSolve(t, "halves", ledBy(1<<29, 0, half, half, half), []int64{0, 1536, 2048})
	mustSolve(t, "halves", ledBy(1<<29, 0, half, half, half, half), []int64{-1024, 768, 2048, 2048})
	mustSolve(t, "halves", ledBy(1<<29, 0, half, half, half, half, half), []int64{-2048, -256, 1664, 2560, 2048})
	mustSolve(t, "halves to and fro", ledBy(1<<29, 0, half, -half, half, -half), []int64{5120, -5376, 4096, -2048})
}
