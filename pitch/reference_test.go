package pitch_test

import (
	"math/big"
	"slices"

	"madrigal/pitch"
)

// Chapter 11 read a second time: sums and quotients of any length, all lags scored and put in order. Nothing of fix is taken, and there is no heap.

// goodSound tells whether a sound has as many numbers as may be.
func goodSound(x []int64) bool { return len(x) > 1 && len(x) < 961 }

// reached tells whether a lag is at most half of so many numbers.
func reached(lag, n int) bool { return lag <= n && lag+lag <= n }

// inSum tells whether the sum goes over n: whether as many numbers stand ahead of it as behind it, or more.
func inSum(n, count int) bool { return n < count && n >= count-1-n }

func within16(v int64) int64 {
	switch {
	case v > 32767:
		return 32767
	case v < -32768:
		return -32768
	}
	return v
}

// sumsApart are c and e.
func sumsApart(x []int64, lag int) (c, e *big.Int) {
	c, e = new(big.Int), new(big.Int)
	for m := range x {
		if inSum(m+lag, len(x)) {
			from, to := within16(x[m]), within16(x[m+lag])
			c.Add(c, big.NewInt(from*to))
			e.Add(e, big.NewInt(from*from))
		}
	}
	return c, e
}

func scoreApart(x []int64, lag int) int64 {
	if !goodSound(x) || lag < 1 || !reached(lag, len(x)) {
		return 0
	}
	c, e := sumsApart(x, lag)
	if c.Sign() < 1 {
		return 0
	}
	c.Rsh(c, 8)
	e.Rsh(e, 16)
	c.Mul(c, c)
	return c.Div(c, e.Add(e, big.NewInt(1))).Int64()
}

// allApart are all lags of a sound, from 1 on.
func allApart(x []int64) []pitch.Lag {
	var l []pitch.Lag
	for lag := 1; reached(lag, len(x)); lag++ {
		l = append(l, pitch.Lag{Lag: lag, Score: scoreApart(x, lag)})
	}
	return l
}

// askable tells whether a sound can be searched so.
func askable(x []int64, least, most, best int) bool {
	return goodSound(x) && least > 0 && most >= least && reached(most, len(x)) && best > 0 && best < 33
}

// bestApart puts those of all lags that are asked for in order: they stand by lag, and those of one score stay so.
func bestApart(all []pitch.Lag, least, most, best int) []pitch.Lag {
	l := slices.Clone(all[least-1 : most])
	slices.SortStableFunc(l, func(a, b pitch.Lag) int {
		switch {
		case a.Score > b.Score:
			return -1
		case a.Score < b.Score:
			return 1
		}
		return 0
	})
	if len(l) > best {
		l = l[:best]
	}
	return l
}
