// Package fix: whole numbers that stand for others: see DOC.md, chapter 1.
package fix

import "math/bits"

const (
	// factors of at most this keep a product, and what rounds it, within 63 bits.
	maxFactor  = 1 << 31
	maxSummand = 1 << 40
	maxSum     = 1 << 56

	// one is 1 in the format of logarithms, powers and angles.
	one    = 1 << 30
	format = 30

	// maxPower is the last power below 2^31, in 256ths.
	maxPower = 31*256 - 1

	// turn is a whole turn; halfPi is a quarter of one, as an arc, in format 30.
	turn   = 1 << 16
	halfPi = 1686629713
)

// roots are 2^(1/2), 2^(1/4), .. 2^(1/256), in format 30.
var roots = [8]int64{
	1518500250, 1276901417, 1170923762, 1121280436,
	1097253708, 1085434106, 1079572136, 1076653033,
}

// Clamp keeps a number between two.
func Clamp(a, lo, hi int64) int64 {
	if a < lo || lo > hi {
		return lo
	}
	if a > hi {
		return hi
	}
	return a
}

// Sat16 keeps it in 16 bits.
func Sat16(a int64) int64 { return Clamp(a, -32768, 32767) }

// Mul multiplies, and divides by 2^s.
func Mul(a, b int64, s int) int64 {
	if s < 0 || s > 62 {
		return 0
	}
	p := clampFactor(a) * clampFactor(b)
	if s == 0 {
		return p
	}
	return (p + 1<<(s-1)) >> s
}

// Div multiplies by 2^s, and divides.
func Div(a, b int64, s int) int64 {
	if b == 0 || s < 0 || s > 30 {
		return 0
	}
	return divideDown(clampFactor(a)<<s, clampFactor(b))
}

// Sum adds all.
func Sum(l ...int64) int64 {
	s := int64(0)
	for _, a := range l {
		s = Clamp(s+Clamp(a, -maxSummand, maxSummand), -maxSum, maxSum)
	}
	return s
}

// Log2 tells the logarithm.
func Log2(a int64) int64 {
	if a < 1 {
		return 0
	}
	n := Len(a) - 1
	m := a << max(format-n, 0) >> max(n-format, 0)
	l := int64(n)
	for range 8 {
		m = m * m >> format
		l *= 2
		if m >= 2*one {
			m /= 2
			l++
		}
	}
	return l
}

// Exp2 tells the power of two.
func Exp2(q int64) int64 {
	q = Clamp(q, 0, maxPower)
	r := int64(one)
	for i, c := range roots {
		if q>>(7-i)&1 == 1 {
			r = Mul(r, c, format)
		}
	}
	return Mul(r, 1, format-int(q/256))
}

// Sqrt tells the root.
func Sqrt(a int64) int64 {
	if a < 1 {
		return 0
	}
	// Newton's steps fall from a start above the root till they reach it.
	r := int64(1) << ((Len(a) + 1) / 2)
	for {
		next := (r + a/r) / 2
		if next >= r {
			return r
		}
		r = next
	}
}

// Cos tells the cosine.
func Cos(a int64) int64 {
	a = wrap(a)
	if a > turn/2 {
		a = turn - a
	}
	if a > turn/4 {
		return -quarterCos(turn/2 - a)
	}
	return quarterCos(a)
}

// Sin tells the sine.
func Sin(a int64) int64 { return Cos(wrap(a) - turn/4) }

// Len tells how many bits a number has.
func Len(a int64) int { return bits.Len64(uint64(max(a, 0))) }

func clampFactor(a int64) int64 { return Clamp(a, -maxFactor, maxFactor) }

// divideDown: Go's own quotient is rounded towards 0.
func divideDown(a, b int64) int64 {
	q := a / b
	if a%b != 0 && (a < 0) != (b < 0) {
		q--
	}
	return q
}

// wrap takes an angle modulo a turn, from 0 on.
func wrap(a int64) int64 { return a & (turn - 1) }

// quarterCos is the cosine of an angle in the first quarter: each half of it has the series that is near there.
func quarterCos(a int64) int64 {
	if a <= turn/8 {
		x := arc(a)
		z := Mul(x, x, format)
		return Mul(series(z, -296, 26631, -1491308, 44739243, -536870912, one), 1, 15)
	}
	x := arc(turn/4 - a)
	z := Mul(x, x, format)
	return Mul(Mul(x, series(z, 2959, -213044, 8947849, -178956971, one), format), 1, 15)
}

// arc makes an angle an arc in format 30.
func arc(a int64) int64 { return Mul(a, halfPi, 14) }

// series is a polynomial of z, its highest coefficient first.
func series(z int64, c ...int64) int64 {
	s := int64(0)
	for _, v := range c {
		s = v + Mul(z, s, format)
	}
	return s
}
