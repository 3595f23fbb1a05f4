package pitch_test

import (
	"math/rand/v2"
	"slices"
	"testing"

	"madrigal/api"
	"madrigal/pitch"
)

// sounding is a sound that repeats, with or without noise, or one that doesn't: loud, quiet, with few numbers that aren't 0, or beyond what may be.
func sounding(r *rand.Rand, n int) []int64 {
	x := make([]int64, n)
	period := []int{1 + r.IntN(1+n/2), 1 + r.IntN(20), n + 1}[r.IntN(3)]
	reach := int64(1) << []int{1, 4, 8, 12, 15, 15, 40}[r.IntN(7)]
	noise := reach >> (2 + r.IntN(9))
	share := []float64{0.03, 0.4, 1}[r.IntN(3)]
	for k := range x {
		if k >= period {
			x[k] = x[k-period]
		} else if r.Float64() < share {
			x[k] = r.Int64N(2*reach+1) - reach
		}
		if noise > 0 && share == 1 {
			x[k] += r.Int64N(2*noise+1) - noise
		}
		if r.IntN(400) == 0 {
			x[k] = far[r.IntN(len(far))]
		}
	}
	return x
}

// Any sound: its scores, its best lags, and that fewer of them are the first ones of more.
func TestAnySound(t *testing.T) {
	r := rand.New(rand.NewPCG(11, 1))
	alike, apart, silent := 0, 0, 0
	for range 150 {
		n := []int{2 + r.IntN(8), 2 + r.IntN(80), 2 + r.IntN(959), 957 + r.IntN(4)}[r.IntN(4)]
		x := sounding(r, n)
		all := allApart(x)
		for _, v := range all {
			if s := pitch.Score(x, v.Lag); s != v.Score {
				t.Fatalf("P11.1: Score(%d, %d): %d, want %d", x, v.Lag, s, v.Score)
			}
		}
		for range 6 {
			least := 1 + r.IntN(n/2)
			most := least + r.IntN(n/2-least+1)
			more, e := pitch.Search(x, least, most, 32)
			if want := bestApart(all, least, most, 32); e != api.OK || !slices.Equal(more, want) {
				t.Fatalf("P11.1: Search(%d, %d, %d, 32): %v, %d, want %v", x, least, most, more, e, want)
			}
			for best := 1; best < 32; best++ {
				mustSearch(t, "fewer of them", x, least, most, best, more[:min(best, len(more))])
			}
			for k := 1; k < len(more); k++ {
				switch {
				case more[k].Score == 0:
					silent++
				case more[k].Score == more[k-1].Score:
					alike++
				default:
					apart++
				}
			}
		}
	}
	if alike < 200 || apart < 2000 || silent < 800 {
		t.Errorf("lags of one score %d, of several %d, of none %d", alike, apart, silent)
	}
}

// A sound that stays the same behind many calls: none of them leaves anything behind.
func TestSameAnswersAgain(t *testing.T) {
	r := rand.New(rand.NewPCG(11, 2))
	x := sounding(r, 300)
	want, _ := pitch.Search(x, 5, 140, 20)
	score := pitch.Score(x, 77)
	for range 200 {
		y := sounding(r, 2+r.IntN(300))
		pitch.Search(y, 1, len(y)/2, 1+r.IntN(32))
		pitch.Search(y, r.IntN(5)-2, r.IntN(400), r.IntN(40)-2)
		pitch.Score(y, r.IntN(400)-100)
		mustSearch(t, "once more", x, 5, 140, 20, want)
		if s := pitch.Score(x, 77); s != score {
			t.Fatalf("R5: Score once more: %d, want %d", s, score)
		}
	}
}
