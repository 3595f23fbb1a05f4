package levin_test

import (
	"math/big"
	"math/rand/v2"
	"slices"
	"testing"

	"madrigal/levin"
)

// anySums are far from each other, or parts of the first.
func anySums(r *rand.Rand) []int64 {
	l := make([]int64, 2+r.IntN(32))
	l[0] = 1 + r.Int64N(1<<(1+r.IntN(43)))
	far := r.IntN(2) == 0
	for k := range l[1:] {
		if far {
			l[k+1] = int64(r.Uint64()) >> (8 + r.IntN(56))
		} else {
			l[k+1] = r.Int64N(2*l[0]+1) - l[0]
		}
	}
	return l
}

// greatSums are at 2^41 and -2^41, and about them: behind any r_0 each is more than what is reached.
func greatSums(r *rand.Rand) []int64 {
	l := make([]int64, 2+r.IntN(32))
	l[0] = 1 + r.Int64N(1<<(1+r.IntN(41)))
	sign := int64(1)
	rule := r.IntN(3)
	for k := range l[1:] {
		if rule == 0 || rule == 1 && r.IntN(2) == 0 {
			sign = -sign
		}
		l[k+1] = sign*1<<41 + r.Int64N(3) - 1
		if r.IntN(12) == 0 {
			l[k+1] = int64(r.Uint64()) >> (20 + r.IntN(40))
		}
	}
	return l
}

// ledSums go up by small steps, by great ones, or to the bounds of k and beyond; r_0 may be one that is halved.
func ledSums(r *rand.Rand) []int64 {
	rule := r.IntN(5)
	sign := int64(1)
	turned := r.IntN(3)
	l := led(1<<29+r.Int64N(1<<29), 1+r.IntN(32), func(m int, e *big.Int) int64 {
		if turned == 1 || turned == 2 && r.IntN(2) == 0 {
			sign = -sign
		}
		if rule > 0 && e.Cmp(whole(200)) < 0 {
			return r.Int64N(2*e.Int64()+5) - e.Int64() - 2
		}
		switch rule {
		case 0:
			return toward(r.Int64N(1<<25)-1<<24, e)
		case 1:
			return toward(sign*(16760438+r.Int64N(5)-2), e)
		case 2:
			return toward(sign*(16500000+r.Int64N(300000)), e)
		}
		return toward(sign*r.Int64N(16770000), e)
	})
	if r.IntN(3) == 0 {
		bits := r.IntN(11)
		for k, v := range l {
			l[k] = within(v, -1<<41, 1<<41)<<bits + r.Int64N(1<<bits)
		}
	}
	return l
}

func TestRunsOfSolve(t *testing.T) {
	r := rand.New(rand.NewPCG(12, 1))
	met := map[string]int{}
	add := func(what string, n int) {
		if n > 0 {
			met[what]++
		}
	}
	var rounds [17]int
	for range 1200 {
		for _, l := range [][]int64{anySums(r), greatSums(r), ledSums(r), ledSums(r)} {
			c := mustSolveApart(t, "any", l)
			rounds[c.rounds]++
			add("doubled", c.doubled)
			add("halved", c.halved)
			add("k beyond", c.kHigh)
			add("k beyond, below 0", c.kLow)
			add("k at its bound", c.kTop)
			add("k at its bound, below 0", c.kFoot)
			add("a number beyond 2^31", c.aHigh)
			add("a number below -2^31", c.aLow)
			add("e below 1", c.eLow)
			add("e of 1", c.eOne)
			if c.full {
				met["kept at 2^50"]++
			}
		}
	}
	for _, what := range []string{
		"doubled", "halved", "kept at 2^50", "k beyond", "k beyond, below 0", "k at its bound", "k at its bound, below 0",
		"a number beyond 2^31", "a number below -2^31", "e below 1", "e of 1",
	} {
		if met[what] < 40 {
			t.Errorf("P12.1: only %d times: %s", met[what], what)
		}
	}
	for n, v := range rounds[:15] {
		if v < 5 {
			t.Errorf("P12.1: only %d filters were weakened %d times", v, n)
		}
	}
}

// drawnNumbers are any, with some that are far.
func drawnNumbers(r *rand.Rand, n int, most int64) []int64 {
	l := make([]int64, n)
	for k := range l {
		l[k] = r.Int64N(2*most+1) - most
		if r.IntN(50) == 0 {
			l[k] = far[r.IntN(len(far))]
		}
	}
	return l
}

func TestRunsOfAutoRestAndPower(t *testing.T) {
	r := rand.New(rand.NewPCG(12, 2))
	for range 400 {
		n := []int{r.IntN(5), r.IntN(80), r.IntN(961), 957 + r.IntN(4)}[r.IntN(4)]
		x := drawnNumbers(r, n, 1<<r.IntN(18))
		a := drawnNumbers(r, r.IntN(33), 1<<r.IntN(19))
		order := 1 + r.IntN(32)
		mustAuto(t, "any", x, order, autoApart(x, order))
		mustRest(t, "any", x, a, restApart(x, a))
		l := drawnNumbers(r, r.IntN(1100), 1<<r.IntN(23))
		mustPower(t, "any", l, powerApart(l))
	}
}

// What is asked for in between alters no answer.
func TestSameAnswersAgain(t *testing.T) {
	r := rand.New(rand.NewPCG(12, 3))
	x, s := driven(noise(3, 200), []int64{3000, -1500}), ledSums(r)
	sums, _ := levin.Auto(x, 16)
	filter, _ := levin.Solve(s)
	rest, _ := levin.Rest(x, filter)
	power := levin.Power(rest)
	best, _ := levin.Best(x, 16)
	held := slices.Concat(sums, filter, rest)
	for range 60 {
		y := drawnNumbers(r, r.IntN(1000), 40000)
		levin.Auto(y, r.IntN(40)-3)
		levin.Solve(ledSums(r))
		levin.Solve(y[:min(len(y), r.IntN(40))])
		levin.Rest(y, y[:min(len(y), r.IntN(40))])
		levin.Power(y)
		levin.Best(y, []int{10, 16, 12}[r.IntN(3)])
		mustAuto(t, "once more", x, 16, sums)
		mustSolve(t, "once more", s, filter)
		mustRest(t, "once more", x, filter, rest)
		mustPower(t, "once more", rest, power)
		mustBest(t, "once more", x, 16, best)
		if !slices.Equal(slices.Concat(sums, filter, rest), held) {
			t.Fatal("R4: an answer has changed since")
		}
	}
}
