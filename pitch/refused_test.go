package pitch_test

import (
	"math"
	"slices"
	"testing"

	"madrigal/api"
	"madrigal/pitch"
)

func mustRefuse(t *testing.T, x []int64, least, most, best int) {
	t.Helper()
	if l, e := pitch.Search(x, least, most, best); l != nil || e != api.EARG {
		t.Fatalf("P11.1: Search of %d numbers, from %d to %d, the best %d: %v, %d, want EARG", len(x), least, most, best, l, e)
	}
}

// Each count of numbers about an edge, with each least, most and best about theirs: what one of them may not be, and what several may not.
func TestEdgesOfSearch(t *testing.T) {
	refused, taken := 0, 0
	for _, n := range []int{0, 1, 2, 3, 4, 5, 6, 7, 64, 65, 66, 67, 959, 960, 961, 962, 1922} {
		x := repeating(n, 37)
		var all []pitch.Lag
		if goodSound(x) {
			all = allApart(x)
		}
		half := n / 2
		lags := []int{math.MinInt, math.MinInt + 1, -1 << 32, -half, -1, 0, 1, 2, half - 33, half - 31, half - 1, half, half + 1, n, 1<<32 + 1, 1 << 62, math.MaxInt - 1, math.MaxInt}
		bests := []int{math.MinInt, -1 << 32, -1, 0, 1, 2, 31, 32, 33, 34, 1<<32 + 1, math.MaxInt}
		for _, least := range lags {
			for _, most := range lags {
				for _, best := range bests {
					if askable(x, least, most, best) {
						mustSearch(t, "at an edge", x, least, most, best, bestApart(all, least, most, best))
						taken++
					} else {
						mustRefuse(t, x, least, most, best)
						refused++
					}
				}
			}
		}
	}
	if refused < 10000 || taken < 400 {
		t.Errorf("of the edges %d were refused, %d taken", refused, taken)
	}
}

// Each thing that is refused by itself, with all else good.
func TestOneThingThatIsWrong(t *testing.T) {
	for _, n := range []int{0, 1, 961, 962, 1920, 1 << 17} {
		for best := 1; best <= 32; best++ {
			mustRefuse(t, repeat(1000, n), 1, 1, best)
		}
		if n > 1 {
			mustRefuse(t, repeat(1000, n), 1, n/2, 5)
			mustRefuse(t, repeat(1000, n), 1, 480, 5)
		}
	}
	mustRefuse(t, nil, 1, 1, 1)
	for _, n := range []int{2, 3, 20, 21, 960} {
		x := repeating(n, 7)
		half := n / 2
		for _, least := range append(farLags, -1, 0) {
			mustRefuse(t, x, least, half, 1)
		}
		for _, most := range append(farLags, half+1, half+2, n) {
			mustRefuse(t, x, 1, most, 1)
			mustRefuse(t, x, half, most, 1)
		}
		for least := 1; least <= half; least++ {
			mustRefuse(t, x, least, least-1, 1)
			mustRefuse(t, x, least, 0, 1)
			mustRefuse(t, x, least, -1, 1)
		}
		for _, best := range append(farLags, -1, 0, 33, 34, 64, 960) {
			mustRefuse(t, x, 1, half, best)
		}
	}
	for n := 2; n <= 200; n++ {
		x := repeating(n, 7)
		if l, e := pitch.Search(x, n/2, n/2, 1); e != api.OK || len(l) != 1 || l[0].Lag != n/2 {
			t.Errorf("P11.1: Search for half of %d numbers: %v, %d", n, l, e)
		}
		mustRefuse(t, x, n/2, n/2+1, 1)
		mustRefuse(t, x, n/2+1, n/2+1, 1)
	}
}

// How many lags are answered: best, or all that there are if they are fewer.
func TestHowMany(t *testing.T) {
	x := repeating(130, 9)
	for lags := 1; lags <= 65; lags++ {
		for best := 1; best <= 32; best++ {
			for _, least := range []int{1, 66 - lags} {
				l, e := pitch.Search(x, least, least+lags-1, best)
				if e != api.OK || len(l) != min(lags, best) {
					t.Errorf("P11.1: of %d lags the best %d: %d, %d", lags, best, len(l), e)
				}
			}
		}
	}
}

// filler stands in spare room.
const filler = 31

// guarded is a list with spare room behind it, which nobody may write to.
func guarded(l []int64) []int64 {
	return append(slices.Clip(slices.Clone(l)), repeat(filler, 1000)...)[:len(l)]
}

// untouched tells whether a guarded list and its spare room are as they were.
func untouched(l, was []int64) bool {
	return slices.Equal(l, was) && slices.Equal(l[len(l):cap(l)][:1000], repeat(filler, 1000))
}

// Sounds that are taken and that are refused, with numbers beyond what may be.
func TestSoundsThatAreHandedInStay(t *testing.T) {
	for _, n := range []int{0, 1, 2, 3, 64, 65, 479, 959, 960, 961, 1200} {
		was := repeating(n, 23)
		for k := range was {
			if k%5 == 1 {
				was[k] = far[k%len(far)]
			}
		}
		x := guarded(was)
		for _, lag := range []int{-1, 0, 1, 2, 23, n / 2, n/2 + 1, n} {
			pitch.Score(x, lag)
			pitch.Search(x, lag, n/2, 32)
			pitch.Search(x, 1, lag, 7)
			pitch.Search(x, lag, lag, 0)
			if !untouched(x, was) {
				t.Fatalf("R4: %d numbers, lag %d: what was handed in is changed", n, lag)
			}
		}
	}
}

// What stands behind a sound, in its spare room, is no part of it.
func TestSpareRoomIsNoPart(t *testing.T) {
	for _, n := range []int{2, 3, 20, 21, 959, 960} {
		x := repeating(n, 11)
		g := append(slices.Clone(x), repeat(32767, 300)...)[:n]
		for lag := 1; lag <= n/2; lag++ {
			if s, want := pitch.Score(g, lag), pitch.Score(x, lag); s != want {
				t.Fatalf("R5: Score of %d numbers, lag %d, with spare room: %d, want %d", n, lag, s, want)
			}
		}
		mustSearch(t, "with spare room", g, 1, n/2, 32, bestApart(allApart(x), 1, n/2, 32))
		mustScore(t, "none, with spare room", g[:0], 1, 0)
		mustRefuse(t, g[:0], 1, 1, 1)
		mustRefuse(t, g[:1], 1, 1, 1)
	}
}

// fill writes over a list and all its spare room.
func fill(l []pitch.Lag, v pitch.Lag) {
	l = l[:cap(l)]
	for i := range l {
		l[i] = v
	}
}

// What a Search answered stays as it is, behind others, and when the sound is written over; and when it is written over itself, spare room too, nothing else changes.
func TestAnswersAreNew(t *testing.T) {
	var answers, wants [][]pitch.Lag
	for seed := uint32(1); seed <= 60; seed++ {
		x := drawnSound(seed)
		half := len(x) / 2
		best := 1 + int(seed*5%32)
		wants = append(wants, bestApart(allApart(x), 1, half, best))
		for range 2 {
			l, _ := pitch.Search(x, 1, half, best)
			answers = append(answers, l)
		}
		pitch.Search(x, 0, half, best)
		pitch.Score(x, half)
		for k := range x {
			x[k] = -7
		}
	}
	for k, l := range answers {
		if !slices.Equal(l, wants[k/2]) {
			t.Fatalf("R4: what Search %d answered has changed: %v, want %v", k, l, wants[k/2])
		}
	}
	for k, l := range answers {
		fill(l, pitch.Lag{Lag: k, Score: int64(-k)})
	}
	for k, l := range answers {
		for _, v := range l[:cap(l)] {
			if v.Lag != k || v.Score != int64(-k) {
				t.Fatalf("R4: two answers share memory")
			}
		}
	}
	for k := range wants {
		x := drawnSound(uint32(k + 1))
		mustSearch(t, "once more, when what was answered is written over", x, 1, len(x)/2, 1+(k+1)*5%32, wants[k])
	}
}
