package lpc_test

import (
	"math"

	"madrigal/fix"
)

// Chapter 7 read a second time. Of fix only its cosine is taken: products, quotients and roots are reckoned here, from their remainders.

func within(v, lo, hi int64) int64 {
	if v < lo {
		return lo
	}
	if v > hi {
		return hi
	}
	return v
}

// floored is a divided by b (above 0), down.
func floored(a, b int64) int64 {
	rest := a % b
	if rest < 0 {
		rest += b
	}
	return (a - rest) / b
}

func within31(v int64) int64 { return within(v, -1<<31, 1<<31) }
func within17(v int64) int64 { return within(v, -1<<17, 1<<17) }

func product(a, b int64, s int) int64 {
	unit := int64(1) << s
	return floored(within31(a)*within31(b)+unit/2, unit)
}

func all(l []int64, f func(int64) int64) []int64 {
	c := make([]int64, len(l))
	for k, v := range l {
		c[k] = f(v)
	}
	return c
}

// multiplied takes one y after the other: each polynomial is read off the one ahead, of which nothing is written over.
func multiplied(y []int64) []int64 {
	ahead := []int64{65536, -y[0]}
	for k := 1; k < len(y); k++ {
		next := make([]int64, k+2)
		next[0] = 65536
		next[1] = ahead[1] - y[k]
		for n := 2; n <= k; n++ {
			next[n] = ahead[n] + ahead[n-2] - product(y[k], ahead[n-1], 16)
		}
		next[k+1] = 2*ahead[k-1] - product(y[k], ahead[k], 16)
		ahead = next
	}
	return ahead
}

// raw is what From makes fit.
func raw(l []int64) []int64 {
	n := len(l)
	var y [2][]int64
	for k, v := range l {
		y[k%2] = append(y[k%2], 4*fix.Cos(within(v, 0, 32768)))
	}
	p, q := multiplied(y[0]), multiplied(y[1])
	a := make([]int64, n)
	for k := range n {
		if k < n/2 {
			a[k] = product(-(q[k+1]-q[k])-(p[k+1]+p[k]), 1, 5)
		} else {
			j := n - 1 - k
			a[k] = product((q[j+1]-q[j])-(p[j+1]+p[j]), 1, 5)
		}
	}
	return a
}

// fall is how a filter goes down: the number at which it fails (-1, if it is stable), and whether a number was clamped on the way.
type fall struct {
	at    int
	grown bool
}

func (f fall) stable() bool { return f.at < 0 }

// fallOf makes each shorter filter a list of its own.
func fallOf(a []int64) fall {
	if len(a) > 32 {
		return fall{at: len(a)}
	}
	grown := false
	b := all(a, func(v int64) int64 { return 4096 * within17(v) })
	for len(b) > 0 {
		m := len(b) - 1
		r := b[m]
		if r > 16760438 || -r > 16760438 {
			return fall{m, grown}
		}
		d := 16777216 - product(r, r, 24)
		next := make([]int64, m)
		for k := range next {
			n := within31(b[k] + product(r, b[m-1-k], 24))
			v := floored(n*16777216, d)
			next[k] = within31(v)
			grown = grown || next[k] != v
		}
		b = next
	}
	return fall{-1, grown}
}

func chirped(a []int64, c int64) []int64 {
	if len(a) > 32 {
		return nil
	}
	f := make([]int64, len(a))
	for k := range a {
		f[k] = within31(a[k])
		for n := 0; n <= k; n++ {
			f[k] = product(f[k], within(c, 0, 65536), 16)
		}
	}
	return f
}

// weakenings are what a filter is behind 0, 1, .. 16 rounds.
func weakenings(a []int64) [][]int64 {
	l := [][]int64{all(a, within17)}
	for r := range 16 {
		l = append(l, chirped(l[r], 63488-2048*int64(r)))
	}
	return l
}

// fitted tells how many rounds it took, too: 17, if noughts are left.
func fitted(a []int64) ([]int64, int) {
	if len(a) > 32 {
		return nil, 0
	}
	for r, f := range weakenings(a) {
		if fallOf(f).stable() {
			return f, r
		}
	}
	return make([]int64, len(a)), 17
}

// gained asks a float for the root, and mends what it misses.
func gained(a []int64) int64 {
	if len(a) > 32 {
		return 0
	}
	sum := int64(4096 * 4096)
	for _, v := range all(a, within17) {
		sum += v * v
	}
	g := int64(math.Sqrt(float64(sum)))
	for g*g > sum {
		g--
	}
	for (g+1)*(g+1) <= sum {
		g++
	}
	return g
}
