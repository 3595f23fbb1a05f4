package pitch_test

import (
	"math"
	"slices"
	"testing"

	"madrigal/pitch"
)

func repeat(v int64, n int) []int64 { return slices.Repeat([]int64{v}, n) }

// joined is one list behind the other.
func joined(l ...[]int64) []int64 { return slices.Concat(l...) }

func mustScore(t *testing.T, what string, x []int64, lag int, want int64) {
	t.Helper()
	if s := pitch.Score(x, lag); s != want {
		t.Errorf("P11.1: %s: Score of %d numbers, lag %d: %d, want %d", what, len(x), lag, s, want)
	}
	if s := scoreApart(x, lag); s != want {
		t.Errorf("P11.1: %s: %d numbers, lag %d: the second reading has %d, want %d", what, len(x), lag, s, want)
	}
}

func TestExampleOfScore(t *testing.T) {
	mustScore(t, "the chapter's example", []int64{1000, -1000, 1000, -1000}, 2, 1968624)
}

func TestScoreByHand(t *testing.T) {
	for _, c := range []struct {
		what string
		x    []int64
		lag  int
		want int64
	}{
		{"silence", []int64{0, 0}, 1, 0},
		{"c of 0", []int64{300, 0}, 1, 0},
		{"c of 0", []int64{0, 300}, 1, 0},
		{"c of 0", []int64{300, 300, -300, 300}, 1, 0},
		{"c of 1", []int64{1, 1}, 1, 0},
		{"c of -1", []int64{1, -1}, 1, 0},
		{"c of -255", []int64{1, -255}, 1, 0},
		{"c of -256", []int64{1, -256}, 1, 0},
		{"c of -257", []int64{-1, 257}, 1, 0},
		{"c far below 0", []int64{3000, -3000}, 1, 0},
		{"c of 255", []int64{1, 255}, 1, 0},
		{"c of 256", []int64{1, 256}, 1, 1},
		{"c of 511", []int64{1, 511}, 1, 1},
		{"c of 512", []int64{1, 512}, 1, 4},
		{"c of 767", []int64{-1, -767}, 1, 4},
		{"c of 768", []int64{-1, -768}, 1, 9},
		{"e of 65025", []int64{255, 256}, 1, 65025},
		{"e of 65535", []int64{255, 22, 5, 1, 256, 0, 0, 0}, 4, 65025},
		{"e of 65536", []int64{255, 22, 5, 1, 1, 256, 0, 0, 0, 0}, 5, 32512},
		{"e of 65536, of one", []int64{256, 256}, 1, 32768},
		{"e of 65536, and a c whose square is odd", []int64{256, 255}, 1, 32512},
		{"e of 65536, and a small c", []int64{256, 1}, 1, 0},
		{"e of 131071", []int64{362, 5, 1, 1, 256, 0, 0, 0}, 4, 65522},
		{"e of 131072", []int64{256, 256, 255, 0}, 2, 21675},
		{"e of 131072, of other signs", []int64{-256, 256, -255, 0}, 2, 21675},
		{"an even quotient", []int64{512, 100}, 1, 8000},
		{"one that is not", []int64{512, 101}, 1, 8160},
		{"e goes over those ahead, not over those themselves", []int64{2, 30000}, 1, 54756},
		{"the greatest two", []int64{-32768, -32768}, 1, 1073676291},
		{"the greatest two above 0", []int64{32767, 32767}, 1, 1073610756},
		{"the greatest two of other signs", []int64{32767, -32768}, 1, 0},
		{"three, of which the middle one counts twice", []int64{16, 16, 16}, 1, 4},
		{"the first two of three", []int64{32, 16, 0}, 1, 4},
		{"the last two of three", []int64{0, 16, 32}, 1, 4},
		{"the last two of four", []int64{0, 0, 16, 16}, 1, 1},
		{"the middle two of four", []int64{0, 16, 16, 0}, 1, 1},
		{"the first two of four", []int64{16, 16, 0, 0}, 1, 0},
		{"every other one", []int64{16, 0, 16, 0}, 2, 1},
		{"every other one, of the next", []int64{16, 0, 16, 0}, 1, 0},
		{"every other one of five", []int64{16, 0, 16, 0, 16}, 2, 4},
		{"products of both signs", []int64{10, 20, 100, -30}, 2, 1},
	} {
		mustScore(t, c.what, c.x, c.lag, c.want)
	}
}

// What is made of c and e is 0 or more: a c of each size from less than 0 on.
func TestScoreOfEveryC(t *testing.T) {
	for c := int64(-3000); c <= 3000; c++ {
		want := int64(0)
		for c >= 0 && (want+1)*256 <= c {
			want++
		}
		mustScore(t, "c by one product", []int64{1, c}, 1, want*want)
	}
}

// And an e of each size: one number and some that are 1 make it.
func TestScoreOfEveryE(t *testing.T) {
	for _, edge := range []int64{1, 2, 3, 4, 9, 100} {
		for e := edge*65536 - 40; e <= edge*65536+40; e++ {
			root := int64(math.Sqrt(float64(e)))
			left := e - root*root
			x := append([]int64{root}, repeat(7, int(left/49))...)
			x = append(x, repeat(1, int(left%49))...)
			n := len(x)
			x = append(x, make([]int64, n)...)
			x[n] = 11 * 256
			k := edge
			if e < edge*65536 {
				k--
			}
			c := 11 * root
			mustScore(t, "e of each size", x, n, c*c/(k+1))
		}
	}
}

// The greatest sums that so many numbers can make: reckoned apart from the program, in another language.
func TestGreatestSums(t *testing.T) {
	for _, c := range []struct {
		what string
		x    []int64
		lag  int
		want int64
	}{
		{"all as low as may be", repeat(-32768, 960), 480, 515396009984},
		{"all as low as may be", repeat(-32768, 960), 1, 515396009984},
		{"all as low as may be, of an odd count", repeat(-32768, 959), 479, 515396009984},
		{"all as low as may be, one number fewer", repeat(-32768, 958), 479, 514322268160},
		{"all as high", repeat(32767, 960), 5, 515364553216},
		{"all as high, of an odd count", repeat(32767, 959), 1, 515364553216},
		{"all beyond", repeat(math.MinInt64, 960), 480, 515396009984},
		{"all beyond, above 0", repeat(math.MaxInt64, 960), 480, 515364553216},
		{"the least c", joined(repeat(-32768, 480), repeat(32767, 480)), 480, 0},
		{"the greatest e, and a c below 0", joined(repeat(-32768, 480), repeat(1, 480)), 480, 0},
		{"the greatest e, and a small c", joined(repeat(-32768, 480), repeat(-1, 480)), 480, 479},
		{"a small e", joined(repeat(-1, 480), repeat(-32768, 480)), 480, 3774873600},
		{"a small e, above 0", joined(repeat(1, 480), repeat(32767, 480)), 480, 3774627844},
		{"to and fro", slices.Repeat([]int64{-32768, 32767}, 480), 480, 515380281344},
		{"to and fro, of an odd lag", slices.Repeat([]int64{-32768, 32767}, 480), 479, 0},
		{"three", repeat(-32768, 3), 1, 2147418113},
	} {
		mustScore(t, c.what, c.x, c.lag, c.want)
	}
}

// Two numbers that are not 0, a lag apart, at each place: they count where the later one stands in the half that the sum goes over, up to the last one.
func TestWhereTheSumGoes(t *testing.T) {
	for _, n := range []int{2, 3, 4, 5, 6, 7, 8, 9, 16, 17, 62, 63, 959, 960} {
		for lag := 1; lag <= n/2; lag++ {
			if n > 100 && lag > 3 && lag < n/2-2 && lag%97 > 0 {
				continue
			}
			for later := lag; later < n; later++ {
				x := make([]int64, n)
				x[later], x[later-lag] = 16, 16
				want := int64(0)
				if later >= n/2 {
					want = 1
				}
				mustScore(t, "two that are not 0", x, lag, want)
			}
		}
	}
}

// The last number repeats one, and another one is in e alone: it counts where it stands a lag ahead of the half that the sum goes over.
func TestWhereTheSumOfSquaresGoes(t *testing.T) {
	for _, n := range []int{3, 4, 5, 6, 7, 8, 9, 16, 17, 62, 63, 959, 960} {
		for lag := 1; lag <= n/2; lag++ {
			if n > 100 && lag > 3 && lag < n/2-2 && lag%97 > 0 {
				continue
			}
			for at := range n {
				repeated := n - 1 - lag
				if at == n-1 || at == repeated || at == repeated-lag {
					continue
				}
				x := make([]int64, n)
				x[n-1], x[repeated], x[at] = 32, 16, 256
				want := int64(4)
				if at >= n/2-lag && at < n-lag {
					want = 2
				}
				mustScore(t, "one in e alone", x, lag, want)
			}
		}
	}
}

// far are numbers at the edges of 16 bits, beyond them, and next to what wraps round.
var far = []int64{
	math.MinInt64, math.MinInt64 + 1, -1<<62 - 1, -1 << 62, -1<<32 - 5, -1 << 32, -1 << 31, -65536, -40000, -32770, -32769, -32768, -32767,
	32766, 32767, 32768, 32769, 40000, 65535, 65536, 1 << 31, 1 << 32, 1<<32 + 5, 1 << 62, math.MaxInt64 - 1, math.MaxInt64,
}

// What is beyond 16 bits is as what is at their edge: at each place, and a 1 beside it.
func TestNumbersBeyond(t *testing.T) {
	for _, v := range far {
		edge := int64(-32768)
		if v > 0 {
			edge = 32767
		}
		if v == -32767 || v == 32766 {
			edge = v
		}
		square, e := edge*edge/256, edge*edge/65536+1
		mustScore(t, "two of them", []int64{v, v}, 1, square*square/e)
		mustScore(t, "one behind 1", []int64{1, v}, 1, max(edge, 0)/256*(max(edge, 0)/256))
		mustScore(t, "one behind -1", []int64{-1, v}, 1, max(-edge, 0)/256*(max(-edge, 0)/256))
		mustScore(t, "one ahead of 256", []int64{v, 256}, 1, max(edge, 0)*max(edge, 0)/e)
		for n := 2; n <= 12; n++ {
			for k := range n {
				x, y := repeat(-900, n), repeat(-900, n)
				x[k], y[k] = v, edge
				for lag := 1; lag <= n/2; lag++ {
					mustScore(t, "one at each place", x, lag, pitch.Score(y, lag))
				}
			}
		}
	}
}

// Each count of numbers, each lag that may be, and those that may not.
func TestEveryCountAndLag(t *testing.T) {
	for n := range 1000 {
		if n > 40 && n < 930 && n%53 > 0 {
			continue
		}
		x := repeat(-1600, n)
		terms := int64(n - n/2)
		c, e := terms*10000, terms*2560000/65536+1
		for lag := -3; lag <= n+3; lag++ {
			want := int64(0)
			if n >= 2 && n <= 960 && lag >= 1 && lag <= n/2 {
				want = c * c / e
			}
			mustScore(t, "one number over and over", x, lag, want)
		}
		for _, lag := range farLags {
			mustScore(t, "a lag that is far off", x, lag, 0)
		}
	}
}

// farLags are far from every lag that may be, and next to what wraps round.
var farLags = []int{
	math.MinInt, math.MinInt + 1, -1 << 62, -1<<32 + 1, -1 << 32, -1 << 31, -961, -960, -480,
	1 << 31, 1 << 32, 1<<32 + 1, 1<<32 + 2, 1 << 62, 1<<62 + 1, math.MaxInt - 1, math.MaxInt,
}

func TestSoundsThatAreTooLong(t *testing.T) {
	for _, n := range []int{961, 962, 1920, 1 << 16, 1<<17 + 1} {
		for _, lag := range []int{1, 2, 240, 480, 481, n / 2} {
			mustScore(t, "too many numbers", repeat(1000, n), lag, 0)
		}
	}
	for _, x := range [][]int64{nil, {}, {1000}} {
		for _, lag := range append(farLags, -1, 0, 1, 2) {
			mustScore(t, "too few numbers", x, lag, 0)
		}
	}
}
