package lpc_test

import (
	"math"
	"math/rand/v2"
	"slices"
	"testing"

	"madrigal/api"
	"madrigal/lpc"
	"madrigal/lsf"
)

// drawnFilter is n numbers: of a filter built up from what drives it, near the edge of what is Stable on both sides, or any.
func drawnFilter(r *rand.Rand, n int) []int64 {
	switch r.IntN(6) {
	case 0:
		return drawnNumbers(r, n, 1<<r.IntN(19))
	case 1:
		a := make([]int64, n)
		for range 1 + r.IntN(3) {
			a[r.IntN(n)] = r.Int64N(9000) - 4500
		}
		return a
	case 2:
		a := drawnNumbers(r, n, 4096)
		for range 3 {
			a[r.IntN(n)] = far[r.IntN(len(far))]
		}
		return a
	}
	return builtUp(r, n, 1-math.Pow(r.Float64(), 4)*0.9+0.002)
}

func drawnNumbers(r *rand.Rand, n int, most int64) []int64 {
	a := make([]int64, n)
	for k := range a {
		a[k] = r.Int64N(2*most+1) - most
	}
	return a
}

// builtUp goes the way up that Stable goes down.
func builtUp(r *rand.Rand, n int, most float64) []int64 {
	var a []float64
	sign := 1.0
	turn := r.IntN(3)
	for m := range n {
		if turn == 1 || turn == 2 && r.IntN(2) == 0 {
			sign = -sign
		}
		last := sign * most * math.Pow(r.Float64(), 0.5)
		next := append(slices.Clone(a), last)
		for k := range m {
			next[k] -= last * a[m-1-k]
		}
		a = next
	}
	f := make([]int64, n)
	for k, v := range a {
		f[k] = int64(math.Round(within64(v) * 4096))
	}
	return f
}

// within64 keeps what is built up within twice what a filter's numbers may be.
func within64(v float64) float64 { return min(max(v, -64), 64) }

func TestRunsOfStable(t *testing.T) {
	r := rand.New(rand.NewPCG(7, 1))
	met := map[string]int{}
	for range 60000 {
		a := drawnFilter(r, 1+r.IntN(33))
		f := fallOf(a)
		mustStable(t, a, f.stable())
		switch {
		case f.stable():
			met["stable"]++
		case f.at == len(a)-1:
			met["fails at the last"]++
		case f.at == 0:
			met["fails at the first"]++
		case len(a) <= 32:
			met["fails between"]++
		default:
			met["too many"]++
		}
		if f.grown {
			met["grown"]++
		}
	}
	for _, what := range []string{"stable", "fails at the last", "fails at the first", "fails between", "too many", "grown"} {
		if met[what] < 500 {
			t.Errorf("P7.2: only %d times: %s", met[what], what)
		}
	}
}

func TestRunsOfFit(t *testing.T) {
	r := rand.New(rand.NewPCG(7, 2))
	met := map[int]int{}
	for range 20000 {
		a := drawnFilter(r, 1+r.IntN(32))
		want, rounds := fitted(a)
		mustFit(t, a, want)
		met[rounds]++
	}
	for rounds := range 15 {
		if met[rounds] < 50 {
			t.Errorf("P7.3: only %d filters were Stable behind %d rounds", met[rounds], rounds)
		}
	}
}

func TestRunsOfChirpAndGain(t *testing.T) {
	r := rand.New(rand.NewPCG(7, 3))
	for range 20000 {
		a := drawnFilter(r, 1+r.IntN(33))
		c := r.Int64N(70000) - 2000
		if r.IntN(8) == 0 {
			c = far[r.IntN(len(far))]
		}
		mustChirp(t, a, c, chirped(a, c))
		mustGain(t, a, gained(a))
	}
}

// drawnFrequencies are what an Index tells, or rise, or do not, or are any.
func drawnFrequencies(r *rand.Rand, order int) []int64 {
	kind := r.IntN(4)
	if kind == 0 {
		x := lsf.Index{One: r.IntN(16), Two: make([]int, order)}
		v := r.IntN(9) - 4
		for k := range x.Two {
			if r.IntN(3) == 0 {
				v = r.IntN(9) - 4
			}
			x.Two[k] = v
		}
		l, _ := lsf.Decode(order, x)
		return l
	}
	l := drawnNumbers(r, order, 16384)
	for k := range l {
		l[k] += 16384
	}
	if kind == 1 {
		slices.Sort(l)
	}
	if kind == 2 {
		l[r.IntN(order)] = far[r.IntN(len(far))]
		l = lsf.Steady(l)
	}
	return l
}

func TestRunsOfFrom(t *testing.T) {
	r := rand.New(rand.NewPCG(7, 4))
	for _, order := range []int{10, 16} {
		weakened := 0
		for range 15000 {
			l := drawnFrequencies(r, order)
			want, rounds := fitted(raw(l))
			mustFrom(t, l, want)
			if rounds > 0 {
				weakened++
			}
		}
		if weakened < 1000 || weakened > 14000 {
			t.Errorf("P7.1: %d of 15000 of order %d were weakened", weakened, order)
		}
	}
}

// Any numbers at all: P7.4 holds for what is made of them, and one call is not told by another.
func TestRunsOfAnything(t *testing.T) {
	r := rand.New(rand.NewPCG(7, 5))
	for range 5000 {
		a := make([]int64, 10+6*r.IntN(2))
		for k := range a {
			a[k] = int64(r.Uint64()) >> r.IntN(64)
		}
		mustFit(t, a, fitOf(a))
		mustFrom(t, a, fitOf(raw(a)))
		mustFit(t, a, fitOf(a))
	}
}

// guarded is a list with spare room behind it, in which a call must write as little as in the list.
func guarded(l []int64) []int64 { return append(slices.Clip(l), repeat(77, 80)...)[:len(l)] }

// untouched tells whether a guarded list and its spare room are as they were.
func untouched(l, was []int64) bool {
	for _, v := range l[len(l):cap(l)][:80] {
		if v != 77 {
			return false
		}
	}
	return slices.Equal(l, was)
}

// fill writes over a list and all its spare room.
func fill(l []int64, v int64) {
	l = l[:cap(l)]
	for i := range l {
		l[i] = v
	}
}

// isNew holds three answers of one call against each other, with all of the first two written over, spare room too; what was handed in must stay, and be of no use any more when it is written over.
func isNew(t *testing.T, what string, given []int64, call func([]int64) []int64) {
	t.Helper()
	l := guarded(given)
	first, second := call(l), call(l)
	was := slices.Clone(first)
	if len(was) == 0 {
		t.Errorf("R4: %s answers nothing", what)
	}
	fill(first, 991)
	if !slices.Equal(second, was) {
		t.Errorf("R4: %s: an answer shares memory with the one ahead", what)
	}
	fill(second, 992)
	if slices.ContainsFunc(first[:cap(first)], func(v int64) bool { return v != 991 }) {
		t.Errorf("R4: %s: an answer shares spare room with the one behind", what)
	}
	if !untouched(l, given) {
		t.Errorf("R4: %s: what was handed in is changed, or shared: %d", what, given)
	}
	third := call(l)
	if !slices.Equal(third, was) {
		t.Errorf("R4: %s: an answer shares memory with what is kept", what)
	}
	room := slices.Clone(third[:cap(third)])
	fill(l, 993)
	if !slices.Equal(third[:cap(third)], room) {
		t.Errorf("R4: %s: what was handed in is kept", what)
	}
}

func TestAnswersAreNew(t *testing.T) {
	from := func(l []int64) []int64 {
		a, e := lpc.From(l)
		if e != api.OK {
			t.Errorf("P7.1: From(%d): %d", l, e)
		}
		return a
	}
	for _, l := range [][]int64{
		alikeApart(10), alikeApart(16), backwards(alikeApart(10)), repeat(-3, 10), repeat(40000, 16),
		{0, 0, 3000, 6000, 9000, 12000, 15000, 20000, 25000, 32768}, {math.MinInt64, math.MaxInt64, 1 << 40, 3, 2, 1, -1, -2, -3, 40000},
	} {
		isNew(t, "From", l, from)
	}
	for _, a := range [][]int64{
		{5}, {4096}, {100, -200, 300}, {math.MaxInt64, math.MinInt64}, repeat(0, 32), repeat(5000, 32), repeat(1<<17+1, 32), clampedStable[0].a, clampedStable[2].a,
	} {
		isNew(t, "Fit", a, lpc.Fit)
		for _, c := range []int64{-1, 0, 32768, 65535, 65536, 65537} {
			isNew(t, "Chirp", a, func(a []int64) []int64 { return lpc.Chirp(a, c) })
		}
	}
}

// What is only looked at, and what is refused, stays too.
func TestListsStay(t *testing.T) {
	for _, was := range [][]int64{
		{5}, {4096}, {1 << 40, -1 << 40}, repeat(1<<18, 32), repeat(-1<<18, 33), grownStable[0], grownNotStable[0], clampedStable[0].a, alikeApart(12), {},
	} {
		a := guarded(was)
		stable, gain := lpc.Stable(a), lpc.Gain(a)
		if !untouched(a, was) {
			t.Errorf("R4: Stable or Gain changes its list, %d", was)
		}
		if lpc.Stable(a) != stable || lpc.Gain(a) != gain {
			t.Errorf("R5: of %d Stable and Gain tell another thing the second time", was)
		}
		mustNotFrom(t, a)
		if !untouched(a, was) {
			t.Errorf("R4: a refused From changes its list, %d", was)
		}
	}
	was := repeat(1<<18, 33)
	a := guarded(was)
	if lpc.Fit(a); !untouched(a, was) {
		t.Errorf("R4: Fit changes a list that is too long")
	}
	if lpc.Chirp(a, 5); !untouched(a, was) {
		t.Errorf("R4: Chirp changes a list that is too long")
	}
}

// What Fit and Chirp answer of one another's answers is each its own: a filter that stays is copied all the same.
func TestAnswersOfAnswers(t *testing.T) {
	for _, a := range [][]int64{{100, -200, 300}, {8000}, repeat(0, 32)} {
		f := lpc.Fit(a)
		g := lpc.Fit(f)
		h := lpc.Chirp(g, 65536)
		was := slices.Clone(f)
		fill(f, 7)
		if !slices.Equal(g, was) || !slices.Equal(h, was) {
			t.Errorf("R4: Fit of what stays shares memory with it")
		}
		fill(g, 8)
		if !slices.Equal(h, was) {
			t.Errorf("R4: Chirp by 65536 shares memory with what was handed in")
		}
	}
}
