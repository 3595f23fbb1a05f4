package levin_test

import (
	"math/big"
	"slices"

	"madrigal/lpc"
	"madrigal/lsf"
)

// Chapter 12 read a second time: sums, products and quotients of any length, each filter a list of its own, and samples that are silent laid ahead of a sound. Nothing of fix is taken; of lpc and lsf what the chapter names.

func within(v, lo, hi int64) int64 {
	switch {
	case v > hi:
		return hi
	case v < lo:
		return lo
	}
	return v
}

func within16(v int64) int64 { return within(v, -32768, 32767) }
func within17(v int64) int64 { return within(v, -1<<17, 1<<17) }
func within20(v int64) int64 { return within(v, -1<<20, 1<<20) }

func all(l []int64, f func(int64) int64) []int64 {
	c := make([]int64, len(l))
	for k, v := range l {
		c[k] = f(v)
	}
	return c
}

func whole(v int64) *big.Int       { return big.NewInt(v) }
func shifted(bits uint) *big.Int   { return powers[bits] }
func plus(a, b *big.Int) *big.Int  { return new(big.Int).Add(a, b) }
func less(a, b *big.Int) *big.Int  { return new(big.Int).Sub(a, b) }
func times(a, b *big.Int) *big.Int { return new(big.Int).Mul(a, b) }

// powers are those of two: nobody writes to them.
var powers = func() []*big.Int {
	l := []*big.Int{whole(1)}
	for len(l) < 64 {
		last := l[len(l)-1]
		l = append(l, plus(last, last))
	}
	return l
}()

// down is a divided by b (above 0), down.
func down(a, b *big.Int) *big.Int { return new(big.Int).Div(a, b) }

// bounded keeps a number from -most to most.
func bounded(v, most *big.Int) *big.Int {
	switch {
	case v.CmpAbs(most) <= 0:
		return v
	case v.Sign() < 0:
		return new(big.Int).Neg(most)
	}
	return most
}

// product is fix's Mul.
func product(a, b *big.Int, s uint) *big.Int {
	p := times(bounded(a, shifted(31)), bounded(b, shifted(31)))
	return p.Rsh(p.Add(p, shifted(s-1)), s)
}

// quotient is fix's Div by 24, of a b above 0.
func quotient(a, b *big.Int) *big.Int {
	return down(times(bounded(a, shifted(31)), shifted(24)), bounded(b, shifted(31)))
}

// autoApart goes through the pairs of samples.
func autoApart(x []int64, order int) []int64 {
	sums := make([]*big.Int, order+1)
	for k := range sums {
		sums[k] = whole(0)
	}
	for late := range x {
		for early := max(0, late-order); early <= late; early++ {
			k := late - early
			sums[k].Add(sums[k], times(whole(within16(x[early])), whole(within16(x[late]))))
		}
	}
	return small(sums)
}

func small(l []*big.Int) []int64 {
	s := make([]int64, len(l))
	for k, v := range l {
		s[k] = v.Int64()
	}
	return s
}

// climb is the way up to a filter, and what was met on it.
type climb struct {
	r, a []*big.Int
	e    *big.Int

	doubled, halved          int
	full                     bool // a number was kept at 2^50
	kHigh, kLow, kTop, kFoot int  // k was beyond its bounds, or at one of them by itself
	aHigh, aLow, aTop, aFoot int  // likewise an old number of the filter
	eLow, eOne               int  // e would have come below 1; it came to 1 by itself
	rounds                   int  // Fit's
	answer                   []int64
}

// begun is the foot of the way up, for r of which the first is above 0.
func begun(r []int64) *climb {
	c := &climb{}
	for _, v := range r {
		c.r = append(c.r, bounded(whole(v), shifted(41)))
	}
	first := c.r[0]
	for times(first, shifted(uint(c.doubled))).Cmp(shifted(29)) < 0 {
		c.doubled++
	}
	for down(first, shifted(uint(c.halved))).Cmp(shifted(30)) >= 0 {
		c.halved++
	}
	for k, v := range c.r {
		v = times(v, shifted(uint(c.doubled)))
		c.r[k] = down(bounded(v, shifted(50)), shifted(uint(c.halved)))
		c.full = c.full || v.CmpAbs(shifted(50)) > 0
	}
	c.e = plus(plus(c.r[0], down(c.r[0], whole(1024))), whole(1))
	c.r[0] = c.e
	return c
}

// reached is the sum that is taken off the next number of r.
func (c *climb) reached() *big.Int {
	sum := whole(0)
	for i, v := range c.a {
		sum = plus(sum, product(v, c.r[len(c.a)-i], 24))
	}
	return sum
}

// step goes on to a filter of one number more.
func (c *climb) step() {
	m := len(c.a)
	q := quotient(less(c.r[m+1], c.reached()), c.e)
	k := bounded(q, whole(16760438))
	count(q, k, whole(16760438), &c.kHigh, &c.kLow, &c.kTop, &c.kFoot)
	next := make([]*big.Int, m+1)
	next[m] = k
	for i := range m {
		v := less(c.a[i], product(k, c.a[m-1-i], 24))
		next[i] = bounded(v, shifted(31))
		count(v, next[i], shifted(31), &c.aHigh, &c.aLow, &c.aTop, &c.aFoot)
	}
	c.a = next
	c.e = product(c.e, less(shifted(24), product(k, k, 24)), 24)
	switch {
	case c.e.Sign() < 1:
		c.e = whole(1)
		c.eLow++
	case c.e.Cmp(whole(1)) == 0:
		c.eOne++
	}
}

// count tells apart what was bounded from what was at a bound by itself.
func count(was, is, most *big.Int, high, low, top, foot *int) {
	switch {
	case was.Cmp(is) > 0:
		*high++
	case was.Cmp(is) < 0:
		*low++
	case was.Cmp(most) == 0:
		*top++
	case was.CmpAbs(most) == 0:
		*foot++
	}
}

// solveApart is of 2 to 33 numbers.
func solveApart(r []int64) *climb {
	if r[0] < 1 {
		return &climb{answer: make([]int64, len(r)-1)}
	}
	c := begun(r)
	for len(c.a) < len(r)-1 {
		c.step()
	}
	var a []int64
	for _, v := range c.a {
		a = append(a, product(v, whole(1), 12).Int64())
	}
	c.answer = lpc.Fit(a)
	f := all(a, within17)
	for ; !lpc.Stable(f) && c.rounds < 16; c.rounds++ {
		f = lpc.Chirp(f, 63488-2048*int64(c.rounds))
	}
	return c
}

// restApart lays silent samples ahead, as many as the filter has numbers.
func restApart(x, a []int64) []int64 {
	padded := append(make([]int64, len(a)), all(x, within16)...)
	l := make([]int64, len(x))
	for n := range l {
		v := whole(padded[len(a)+n])
		for k, f := range a {
			v = less(v, product(whole(within17(f)), whole(padded[len(a)+n-1-k]), 12))
		}
		l[n] = v.Int64()
	}
	return l
}

func powerApart(l []int64) int64 {
	sum := whole(0)
	for n := 0; n < len(l) && n < 960; n++ {
		v := whole(within20(l[n]))
		sum = plus(sum, times(v, v))
	}
	return sum.Int64()
}

// rows are the filters of the first table's frequencies.
func rows(order int) [][]int64 {
	l := make([][]int64, 16)
	for i := range l {
		f, _ := lsf.Decode(order, lsf.Index{One: i, Two: make([]int, order)})
		l[i], _ = lpc.From(f)
	}
	return l
}

// powersApart are what each of these filters leaves.
func powersApart(x []int64, filters [][]int64) []int64 {
	var l []int64
	for _, a := range filters {
		l = append(l, powerApart(restApart(x, a)))
	}
	return l
}

// firstLeast is the place of the least, of several the first.
func firstLeast(l []int64) int { return slices.Index(l, slices.Min(l)) }
