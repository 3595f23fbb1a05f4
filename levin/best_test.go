package levin_test

import (
	"math"
	"slices"
	"testing"

	"madrigal/api"
	"madrigal/levin"
)

func mustBest(t *testing.T, what string, x []int64, order, want int) {
	t.Helper()
	if i, e := levin.Best(x, order); e != api.OK || i != want {
		t.Fatalf("P12.2: %s: Best of %d numbers, order %d: %d, %d, want %d", what, len(x), order, i, e, want)
	}
}

func mustNotBest(t *testing.T, x []int64, order int) {
	t.Helper()
	if i, e := levin.Best(x, order); e != api.EARG || i != 0 {
		t.Fatalf("P12.2: Best of %d numbers, order %d: %d, %d, want 0, EARG", len(x), order, i, e)
	}
}

func orders() []int { return []int{10, 16} }

func TestEdgesOfBest(t *testing.T) {
	for _, n := range []int{0, 1, 2, 9, 10, 11, 500, 959, 960} {
		x := driven(noise(2, n), rows(10)[5])
		for _, order := range orders() {
			mustBest(t, "each count", x, order, firstLeast(powersApart(x, rows(order))))
			mustBest(t, "silence", make([]int64, n), order, 0)
		}
		for order := -40; order <= 40; order++ {
			if order != 10 && order != 16 {
				mustNotBest(t, x, order)
			}
		}
		for _, order := range farOrders {
			mustNotBest(t, x, order)
		}
	}
	for _, n := range []int{961, 962, 1024, 1920, 1<<16 + 5} {
		for _, order := range append(farOrders, 9, 10, 11, 12, 15, 16, 17, 32) {
			mustNotBest(t, noise(2, n), order)
			mustNotBest(t, make([]int64, n), order)
		}
	}
	mustBest(t, "none", nil, 10, 0)
	mustBest(t, "none", nil, 16, 0)
	mustNotBest(t, nil, 12)
}

// Each row of either table is found to by what its own filter has made: also when it is louder, and with its signs turned.
func TestEachRowIsBest(t *testing.T) {
	for _, order := range orders() {
		for i, a := range rows(order) {
			x := driven(noise(2, 960), a)
			mustBest(t, "what a row has made", x, order, i)
			mustBest(t, "the same, louder", all(x, func(v int64) int64 { return 5 * v }), order, i)
			mustBest(t, "the same, with its signs turned", all(x, func(v int64) int64 { return -v }), order, i)
			p := powersApart(x, rows(order))
			if firstLeast(p) != i {
				t.Errorf("P12.2: what row %d has made is read in two ways: %d", i, p)
			}
		}
	}
}

// Of several of the least Power it is the least i: a pulse at the very end is left as it is by all, and small sounds are left alike by some.
func TestLeastOfSeveral(t *testing.T) {
	for _, n := range []int{1, 2, 9, 16, 17, 959, 960} {
		for _, v := range append([]int64{1, -1, 1000, -32768, 32767}, far...) {
			for _, order := range orders() {
				mustBest(t, "a pulse at the end", only(v, n-1, n), order, 0)
			}
		}
	}
	for _, order := range orders() {
		filters := rows(order)
		tied := map[int]int{}
		for code := range 3 * 3 * 3 * 3 * 3 * 3 {
			var x []int64
			for v := code; len(x) < 6; v /= 3 {
				x = append(x, int64(v%3-1)*12)
			}
			p := powersApart(x, filters)
			i := firstLeast(p)
			mustBest(t, "a small sound", x, order, i)
			if slices.Index(p[i+1:], p[i]) >= 0 {
				tied[i]++
			}
		}
		if len(tied) < 6 {
			t.Errorf("P12.2: order %d: only these were the least of several: %d", order, tied)
		}
	}
}

// What is beyond 16 bits is as what is at their edge.
func TestBestBeyond(t *testing.T) {
	for _, order := range orders() {
		filters := rows(order)
		for i, a := range filters {
			x := all(driven(noise(uint32(i), 60), a), func(v int64) int64 { return 90 * v })
			y := slices.Clone(x)
			for k := range x {
				if x[k] > 32767 {
					y[k] = []int64{32768, 1 << 40, math.MaxInt64}[k%3]
				}
				if x[k] < -32768 {
					y[k] = []int64{-32769, -1 << 40, math.MinInt64}[k%3]
				}
			}
			if slices.Equal(x, y) {
				t.Fatalf("a sound of row %d is not loud enough", i)
			}
			want := firstLeast(powersApart(all(x, within16), filters))
			mustBest(t, "loud", x, order, want)
			mustBest(t, "beyond", y, order, want)
		}
	}
}

// Any sound: with a row for each order, and short ones too.
func TestRunsOfBest(t *testing.T) {
	for _, order := range orders() {
		filters := rows(order)
		var met [16]int
		for seed := uint32(1); seed <= 150; seed++ {
			x := drawnSound(seed)
			if len(x) > 200 && seed%5 > 0 {
				x = x[:200]
			}
			want := firstLeast(powersApart(x, filters))
			met[want]++
			mustBest(t, "any", x, order, want)
		}
		if n := len(slices.DeleteFunc(met[:], func(v int) bool { return v == 0 })); n < 10 {
			t.Errorf("P12.2: order %d: only %d rows were best", order, n)
		}
	}
}
