package pitch_test

import (
	"slices"
	"testing"

	"madrigal/api"
	"madrigal/pitch"
)

func mustSearch(t *testing.T, what string, x []int64, least, most, best int, want []pitch.Lag) {
	t.Helper()
	l, e := pitch.Search(x, least, most, best)
	if e != api.OK || !slices.Equal(l, want) {
		t.Fatalf("P11.1: %s: Search of %d numbers, from %d to %d, the best %d: %v, %d, want %v", what, len(x), least, most, best, l, e, want)
	}
}

// mustSearchAll goes through a sound's lags, from each to each, with these counts of best ones.
func mustSearchAll(t *testing.T, what string, x []int64, bests ...int) {
	t.Helper()
	all := allApart(x)
	for least := 1; least <= len(all); least++ {
		for most := least; most <= len(all); most++ {
			for _, best := range bests {
				mustSearch(t, what, x, least, most, best, bestApart(all, least, most, best))
			}
		}
	}
}

func TestSearchByHand(t *testing.T) {
	pulses := []int64{256, 0, 0, 256, 0, 0, 256, 0, 0, 256, 0, 0}
	for _, c := range []struct {
		what              string
		x                 []int64
		least, most, best int
		want              []pitch.Lag
	}{
		{"the chapter's sound", []int64{1000, -1000, 1000, -1000}, 1, 2, 32, []pitch.Lag{{Lag: 2, Score: 1968624}, {Lag: 1}}},
		{"its best lag", []int64{1000, -1000, 1000, -1000}, 1, 2, 1, []pitch.Lag{{Lag: 2, Score: 1968624}}},
		{"its first lag", []int64{1000, -1000, 1000, -1000}, 1, 1, 1, []pitch.Lag{{Lag: 1}}},
		{"its second one", []int64{1000, -1000, 1000, -1000}, 2, 2, 2, []pitch.Lag{{Lag: 2, Score: 1968624}}},
		{"two numbers", []int64{1, 512}, 1, 1, 32, []pitch.Lag{{Lag: 1, Score: 4}}},
		{"three numbers", []int64{16, 16, 16}, 1, 1, 1, []pitch.Lag{{Lag: 1, Score: 4}}},
		{"pulses", pulses, 1, 6, 32, []pitch.Lag{{Lag: 3, Score: 87381}, {Lag: 6, Score: 87381}, {Lag: 1}, {Lag: 2}, {Lag: 4}, {Lag: 5}}},
		{"pulses, without the first", pulses, 4, 6, 2, []pitch.Lag{{Lag: 6, Score: 87381}, {Lag: 4}}},
		{"pulses, and one lag", pulses, 1, 6, 1, []pitch.Lag{{Lag: 3, Score: 87381}}},
		{"pulses, none of which comes again", pulses, 4, 5, 3, []pitch.Lag{{Lag: 4}, {Lag: 5}}},
		{"the lesser lag is better", []int64{0, 0, 0, 2, 4, 128, 0, 0, 0, 0}, 1, 5, 3, []pitch.Lag{{Lag: 1, Score: 4}, {Lag: 2, Score: 1}, {Lag: 3}}},
		{"the greater lag is better", []int64{0, 0, 0, 4, 2, 128, 0, 0, 0, 0}, 1, 5, 3, []pitch.Lag{{Lag: 2, Score: 4}, {Lag: 1, Score: 1}, {Lag: 3}}},
		{"the middle one is best", []int64{0, 0, 2, 6, 4, 0, 128, 0, 0, 0, 0, 0}, 1, 5, 4, []pitch.Lag{{Lag: 3, Score: 9}, {Lag: 2, Score: 4}, {Lag: 4, Score: 1}, {Lag: 1}}},
		{"the last one is best", []int64{0, 8, 6, 4, 2, 128, 0, 0, 0, 0}, 1, 4, 3, []pitch.Lag{{Lag: 4, Score: 16}, {Lag: 3, Score: 9}, {Lag: 2, Score: 4}}},
	} {
		mustSearch(t, c.what, c.x, c.least, c.most, c.best, c.want)
	}
}

// repeating has the same numbers over and over, so many of them.
func repeating(n, period int) []int64 {
	x := make([]int64, n)
	for k := range x {
		at := k % period
		x[k] = int64(at*at*7919%6007+at*313%1009) - 3500
	}
	return x
}

// Sounds that repeat are found to: the lags that they repeat after come first, the least one first.
func TestSoundsThatRepeat(t *testing.T) {
	for _, n := range []int{60, 61, 300, 301, 959, 960} {
		for _, period := range []int{2, 3, 7, 10, 16, 29, 30} {
			x := repeating(n, period)
			all := allApart(x)
			best := min(n/2/period, 32)
			l, e := pitch.Search(x, 1, n/2, best)
			if e != api.OK || !slices.Equal(l, bestApart(all, 1, n/2, best)) {
				t.Fatalf("P11.1: a period of %d in %d: %v, %d", period, n, l, e)
			}
			for k, v := range l {
				if v.Lag != (k+1)*period || v.Score != l[0].Score {
					t.Errorf("P11.1: a period of %d in %d: lag %d is %v", period, n, k, v)
				}
			}
		}
	}
}

// Of one score the lesser lags come first, and the greater ones are left out.
func TestLagsOfOneScore(t *testing.T) {
	for _, v := range []int64{0, 1, -5, 400, -32768, 1 << 40} {
		for _, n := range []int{2, 3, 4, 5, 20, 21, 66, 67} {
			x := repeat(v, n)
			score := scoreApart(x, 1)
			for least := 1; least <= n/2; least++ {
				for most := least; most <= n/2; most++ {
					for best := 1; best <= 32; best++ {
						var want []pitch.Lag
						for lag := least; lag <= most && len(want) < best; lag++ {
							want = append(want, pitch.Lag{Lag: lag, Score: score})
						}
						mustSearch(t, "one number over and over", x, least, most, best, want)
					}
				}
			}
		}
	}
	for _, least := range []int{1, 2, 240, 448, 449, 450, 479, 480} {
		for best := 1; best <= 32; best++ {
			var want []pitch.Lag
			for lag := least; lag <= 480 && len(want) < best; lag++ {
				want = append(want, pitch.Lag{Lag: lag})
			}
			mustSearch(t, "silence", make([]int64, 960), least, 480, best, want)
		}
	}
}

// stairs is a sound whose lags have the squares of these for scores: 128 is the first one that the sum goes over, and all squares together are too few for e / 65536.
func stairs(roots []int64) []int64 {
	x := make([]int64, 2*len(roots)+2)
	at := len(x) / 2
	x[at] = 128
	for k, r := range roots {
		x[at-1-k] = 2 * r
	}
	return x
}

// All orders of few scores, of which some are alike: the lags stand in each order that there is.
func TestAllOrders(t *testing.T) {
	for code := range 4 * 4 * 4 * 4 * 4 * 4 {
		var roots []int64
		for v, k := code, 0; k < 6; k++ {
			roots = append(roots, int64(v%4))
			v /= 4
		}
		x := stairs(roots)
		var all []pitch.Lag
		for k, r := range roots {
			all = append(all, pitch.Lag{Lag: k + 1, Score: r * r})
		}
		for best := 1; best <= 7; best++ {
			mustSearch(t, "six lags", x, 1, 6, best, bestApart(all, 1, 6, best))
		}
		mustSearch(t, "the middle ones of six", x, 2, 5, 3, bestApart(all, 2, 5, 3))
	}
}

// More lags than there may be best ones: those with many of one score, rising, falling, to and fro.
func TestLongStairs(t *testing.T) {
	for what, rule := range map[string]func(k int) int64{
		"rising":    func(k int) int64 { return int64(k / 6) },
		"falling":   func(k int) int64 { return int64((89 - k) / 6) },
		"up, down":  func(k int) int64 { return int64(min(k, 89-k) / 3) },
		"down, up":  func(k int) int64 { return int64(max(k, 89-k)-45) / 3 },
		"two kinds": func(k int) int64 { return int64(k % 2) },
		"mixed":     func(k int) int64 { return int64(k * 37 % 90 / 6) },
		"turned":    func(k int) int64 { return int64(k * 53 % 90 / 6) },
	} {
		var roots []int64
		var all []pitch.Lag
		for k := range 90 {
			roots = append(roots, rule(k))
			all = append(all, pitch.Lag{Lag: k + 1, Score: rule(k) * rule(k)})
		}
		x := stairs(roots)
		for best := 1; best <= 32; best++ {
			for least := 1; least <= 90; least += 4 {
				for _, most := range []int{least, least + best - 2, least + best - 1, least + best, 90} {
					if most >= least && most <= 90 {
						mustSearch(t, what, x, least, most, best, bestApart(all, least, most, best))
					}
				}
			}
		}
	}
}

// All sounds of few numbers, each of some that make scores alike and apart, with all that can be asked of them.
func TestAllSmallSounds(t *testing.T) {
	numbers := []int64{-300, -16, 0, 16, 500}
	for n := 2; n <= 6; n++ {
		count := 1
		for range n {
			count *= len(numbers)
		}
		for code := range count {
			var x []int64
			for v, k := code, 0; k < n; k++ {
				x = append(x, numbers[v%len(numbers)])
				v /= len(numbers)
			}
			for lag := -1; lag <= n; lag++ {
				if s, want := pitch.Score(x, lag), scoreApart(x, lag); s != want {
					t.Fatalf("P11.1: Score(%d, %d): %d, want %d", x, lag, s, want)
				}
			}
			mustSearchAll(t, "a small sound", x, 1, 2, 3, 32)
		}
	}
}

// Values reckoned apart from the program, in another language.
func TestDrawnSounds(t *testing.T) {
	for _, c := range []struct {
		first, count   uint32
		scores, search uint64
	}{
		{1, 60, 13823968393843169480, 15405003881468351968},
		{1000, 120, 11202035723385368666, 12467261870086375975},
		{7000, 240, 11449038490426988914, 2040041087305009147},
	} {
		var scores, search []int64
		for seed := c.first; seed < c.first+c.count; seed++ {
			x := drawnSound(seed)
			half := len(x) / 2
			for lag := -1; lag <= half+1; lag++ {
				scores = append(scores, pitch.Score(x, lag))
			}
			least := 1 + int(seed)*7%half
			most := least + int(seed)*31%(half-least+1)
			all, _ := pitch.Search(x, 1, half, 32)
			some, _ := pitch.Search(x, least, most, 1+int(seed%9))
			for _, v := range append(all, some...) {
				search = append(search, int64(v.Lag), v.Score)
			}
		}
		if s := sumOf(scores); s != c.scores {
			t.Errorf("P11.1: Score of %d sounds from %d on: checksum %d, want %d", c.count, c.first, s, c.scores)
		}
		if s := sumOf(search); s != c.search {
			t.Errorf("P11.1: Search of %d sounds from %d on: checksum %d, want %d", c.count, c.first, s, c.search)
		}
	}
}

// The same, of single ones.
func TestDrawnSoundsByThemselves(t *testing.T) {
	for _, c := range []struct {
		seed uint32
		n    int
		want []pitch.Lag
	}{
		{3, 960, []pitch.Lag{{Lag: 46, Score: 166518801920}, {Lag: 92, Score: 166518801920}, {Lag: 138, Score: 166518801920}, {Lag: 184, Score: 166518801920}}},
		{14, 2, []pitch.Lag{{Lag: 1, Score: 942005}}},
		{31, 5, []pitch.Lag{{Lag: 1}, {Lag: 2}}},
		{44, 480, []pitch.Lag{{Lag: 97, Score: 324}, {Lag: 194, Score: 324}, {Lag: 18, Score: 25}, {Lag: 79, Score: 25}}},
	} {
		x := drawnSound(c.seed)
		if len(x) != c.n {
			t.Fatalf("sound %d has %d numbers, want %d", c.seed, len(x), c.n)
		}
		mustSearch(t, "a drawn sound", x, 1, c.n/2, 4, c.want)
	}
}
