package levin_test

import (
	"math"
	"slices"
	"testing"

	"madrigal/api"
	"madrigal/levin"
)

func repeat(v int64, n int) []int64 { return slices.Repeat([]int64{v}, n) }

// only is n numbers, of which one is not 0.
func only(v int64, k, n int) []int64 {
	l := make([]int64, n)
	l[k] = v
	return l
}

// far are numbers far from all that are bounded, and next to what wraps round.
var far = []int64{
	math.MinInt64, math.MinInt64 + 1, -1<<62 - 1, -1 << 62, -1<<50 - 1, -1 << 50, -1<<41 - 1, -1 << 41, -1<<41 + 1, -1<<32 - 5, -1 << 32, -1<<31 - 1, -1 << 31,
	1 << 31, 1<<31 + 1, 1 << 32, 1<<32 + 5, 1<<41 - 1, 1 << 41, 1<<41 + 1, 1 << 50, 1<<50 + 1, 1 << 62, 1<<62 + 1, math.MaxInt64 - 1, math.MaxInt64,
}

// farOrders are no orders, though some of their bits are those of one.
var farOrders = []int{
	math.MinInt, math.MinInt + 1, math.MinInt + 10, -1 << 32, -1<<32 + 16, -960, -33, -32, -16, -10, -2, -1, 0,
	33, 34, 64, 256 + 10, 1<<16 + 16, 1<<32 + 1, 1<<32 + 10, 1<<32 + 16, 1 << 62, math.MaxInt - 1, math.MaxInt,
}

func mustAuto(t *testing.T, what string, x []int64, order int, want []int64) {
	t.Helper()
	if r, e := levin.Auto(x, order); e != api.OK || !slices.Equal(r, want) {
		t.Fatalf("P12.1: %s: Auto of %d numbers, order %d: %d, %d, want %d", what, len(x), order, r, e, want)
	}
}

func mustNotAuto(t *testing.T, x []int64, order int) {
	t.Helper()
	if r, e := levin.Auto(x, order); e != api.EARG || r != nil {
		t.Fatalf("P12.1: Auto of %d numbers, order %d: %d, %d, want EARG", len(x), order, r, e)
	}
}

func TestAutoByHand(t *testing.T) {
	for _, c := range []struct {
		what  string
		x     []int64
		order int
		want  []int64
	}{
		{"the chapter's example", []int64{1, 2, 3}, 1, []int64{14, 8}},
		{"all that there are of it", []int64{1, 2, 3}, 2, []int64{14, 8, 3}},
		{"more than there are of it", []int64{1, 2, 3}, 4, []int64{14, 8, 3, 0, 0}},
		{"its signs turned", []int64{-1, -2, -3}, 2, []int64{14, 8, 3}},
		{"told backwards", []int64{3, 2, 1}, 2, []int64{14, 8, 3}},
		{"one of its signs turned", []int64{1, -2, 3}, 2, []int64{14, -8, 3}},
		{"none", nil, 1, []int64{0, 0}},
		{"none, of a greater order", []int64{}, 3, []int64{0, 0, 0, 0}},
		{"one number", []int64{-7}, 1, []int64{49, 0}},
		{"one number, of a greater order", []int64{7}, 3, []int64{49, 0, 0, 0}},
		{"two numbers", []int64{5, -7}, 1, []int64{74, -35}},
		{"silence", make([]int64, 5), 2, []int64{0, 0, 0}},
		{"noughts between", []int64{2, 0, 0, 3}, 3, []int64{13, 0, 0, 6}},
		{"to and fro", []int64{1, -1, 1, -1}, 3, []int64{4, -3, 2, -1}},
		{"the edges", []int64{-32768, 32767}, 1, []int64{2147418113, -1073709056}},
		{"one beyond them", []int64{-32769, 32768}, 1, []int64{2147418113, -1073709056}},
		{"one within them", []int64{-32767, 32766}, 1, []int64{2147287045, -1073643522}},
		{"the greatest numbers", []int64{math.MinInt64, math.MaxInt64}, 1, []int64{2147418113, -1073709056}},
	} {
		mustAuto(t, c.what, c.x, c.order, c.want)
		if r := autoApart(c.x, c.order); !slices.Equal(r, c.want) {
			t.Errorf("P12.1: %s is read in two ways: %d", c.what, r)
		}
	}
}

// falling is by how many samples a sound of one number over and over is longer than 0, 1, .. order.
func falling(n, order int, each int64) []int64 {
	r := make([]int64, order+1)
	for k := range r {
		r[k] = int64(max(n-k, 0)) * each
	}
	return r
}

// Each count about the edges, with each order: those that may be, and those that may not.
func TestEdgesOfAuto(t *testing.T) {
	for _, n := range []int{0, 1, 2, 5, 31, 32, 33, 34, 500, 958, 959, 960} {
		for order := 1; order <= 32; order++ {
			mustAuto(t, "ones", repeat(1, n), order, falling(n, order, 1))
			mustAuto(t, "the least numbers", repeat(math.MinInt64, n), order, falling(n, order, 1<<30))
			mustAuto(t, "the greatest numbers", repeat(math.MaxInt64, n), order, falling(n, order, 32767*32767))
		}
		for _, order := range farOrders {
			mustNotAuto(t, repeat(1, n), order)
		}
	}
	for _, n := range []int{961, 962, 1024, 1920, 1<<16 + 5} {
		for order := -3; order <= 35; order++ {
			mustNotAuto(t, repeat(1, n), order)
		}
		for _, order := range farOrders {
			mustNotAuto(t, repeat(1, n), order)
		}
	}
}

// Two numbers that are not 0 meet at one order alone, wherever they stand.
func TestWhereAutoGoes(t *testing.T) {
	for _, n := range []int{1, 2, 3, 33, 34, 40, 960} {
		for late := range n {
			if n > 100 && late > 70 && late < n-40 && late%41 > 0 {
				continue
			}
			for early := max(0, late-35); early <= late; early++ {
				x := make([]int64, n)
				x[early], x[late] = 3, -5
				want := make([]int64, 33)
				if early == late {
					want[0] = 25
				} else {
					want[0] = 34
				}
				if d := late - early; d > 0 && d < len(want) {
					want[d] = -15
				}
				mustAuto(t, "two that are not 0", x, 32, want)
				mustAuto(t, "two that are not 0", x, 7, want[:8])
			}
		}
	}
}

// A number beyond 16 bits is as the one at their edge, at each place.
func TestAutoBeyond(t *testing.T) {
	for _, v := range append([]int64{-32770, -32769, -32768, -32767, 32766, 32767, 32768, 32769}, far...) {
		for n := 1; n <= 9; n++ {
			for k := range n {
				x, y := repeat(100, n), repeat(100, n)
				x[k], y[k] = v, within16(v)
				mustAuto(t, "one beyond", x, 5, autoApart(y, 5))
			}
		}
	}
}
