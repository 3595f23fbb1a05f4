package lsf_test

import (
	"math"

	"madrigal/lsf"
	"madrigal/tabs"
)

// Chapter 6 read a second time, number by number.

func units() map[int]int64 { return map[int]int64{10: 400, 16: 250} }

func clamped(v int64) int64 {
	if v < 0 {
		return 0
	}
	if v > 32768 {
		return 32768
	}
	return v
}

func good(order int, x lsf.Index) bool {
	if units()[order] == 0 || len(x.Two) != order {
		return false
	}
	for _, v := range x.Two {
		if v != 0 && v != 1 && v != 2 && v != 3 && v != 4 && v != -1 && v != -2 && v != -3 && v != -4 {
			return false
		}
	}
	return x.One > -1 && x.One < 16
}

// steadied asks of all that stand ahead of a number how far they lift it, then of all behind how far they press it.
func steadied(l []int64) []int64 {
	if len(l) > 64 {
		return nil
	}
	n := len(l)
	up, down := make([]int64, n), make([]int64, n)
	for i := range n {
		up[i] = 250 * int64(i+1)
		for j := 0; j <= i; j++ {
			up[i] = max(up[i], clamped(l[j])+250*int64(i-j))
		}
	}
	for i := range n {
		down[i] = 32768 - 250*int64(n-i)
		for j := i; j < n; j++ {
			down[i] = min(down[i], up[j]-250*int64(j-i))
		}
	}
	return down
}

// raw is what Decode makes steady.
func raw(order int, x lsf.Index) []int64 {
	l := tabs.Lsf(order, x.One)
	for k := range l {
		l[k] += int64(x.Two[k]) * units()[order]
	}
	return l
}

func decoded(order int, x lsf.Index) []int64 { return steadied(raw(order, x)) }

// between reckons with floats: they hold these numbers and their quarters whole.
func between(a, b []int64, w int) []int64 {
	l := make([]int64, len(a))
	for k := range l {
		from, to := float64(clamped(a[k])), float64(clamped(b[k]))
		l[k] = int64(math.Floor(from + (to-from)*float64(w)/4))
	}
	return l
}

// distances are those of all Ones, as sums of squares.
func distances(order int, want []int64) []int64 {
	l := make([]int64, 16)
	for one := range l {
		for k, v := range tabs.Lsf(order, one) {
			d := clamped(want[k]) - v
			l[one] += d * d
		}
	}
	return l
}

// second is the greatest that is not above the difference and a half of f, out of those that Two can tell.
func second(difference, f int64) int {
	for q := 4; q > -4; q-- {
		if int64(q)*f <= difference+f/2 {
			return q
		}
	}
	return -4
}

func sought(order int, want []int64) lsf.Index {
	x := lsf.Index{Two: make([]int, order)}
	d := distances(order, want)
	for one := 15; one >= 0; one-- {
		if d[one] <= d[x.One] {
			x.One = one
		}
	}
	for k, v := range tabs.Lsf(order, x.One) {
		x.Two[k] = second(clamped(want[k])-v, units()[order])
	}
	return x
}
