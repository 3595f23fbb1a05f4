package fix_test

import "math/big"

// The references reckon with numbers of any length, so that no step of theirs can wrap round.

// factor is what Mul and Div reckon with in place of a.
func factor(a int64) *big.Int {
	v, bound := big.NewInt(a), big.NewInt(1<<31)
	if v.CmpAbs(bound) <= 0 {
		return v
	}
	if v.Sign() < 0 {
		return bound.Neg(bound)
	}
	return bound
}

func powerOfTwo(s int) *big.Int { return new(big.Int).Lsh(big.NewInt(1), uint(s)) }

func mul(a, b int64, s int) int64 {
	if s < 0 || s > 62 {
		return 0
	}
	p := new(big.Int).Mul(factor(a), factor(b))
	if s > 0 {
		p.Add(p, powerOfTwo(s-1))
	}
	return down(p, powerOfTwo(s))
}

func div(a, b int64, s int) int64 {
	if b == 0 || s < 0 || s > 30 {
		return 0
	}
	return down(new(big.Int).Mul(factor(a), powerOfTwo(s)), factor(b))
}

// down is a quotient rounded down: big's Div does so for a divisor above 0 alone.
func down(a, b *big.Int) int64 {
	if b.Sign() < 0 {
		a, b = new(big.Int).Neg(a), new(big.Int).Neg(b)
	}
	return new(big.Int).Div(a, b).Int64()
}
