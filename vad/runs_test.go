package vad_test

import (
	"math/rand/v2"
	"slices"
	"strings"
	"testing"

	"madrigal/vad"
)

// told is a run of answers as a text of 0 and 1.
func told(said []bool) string {
	var b strings.Builder
	for _, v := range said {
		b.WriteByte("01"[slices.Index([]bool{false, true}, v)])
	}
	return b.String()
}

// Reckoned apart from the program, in another language: noise that is so loud at most, sound by sound.
func TestRunsThatAreKnown(t *testing.T) {
	long := append(append([]int64{300}, flat(80, 3000)...), flat(8, 300)...)
	longFloors := make([]int64, 81)
	for i := range longFloors {
		longFloors[i] = 3795 + 8*int64(i)
	}
	for i, c := range []struct {
		seed   uint32
		most   []int64
		said   string
		floors []int64
	}{
		{100, []int64{0, 0, 3, 20, 20, 0, 0, 0, 0, 0, 0, 1, 2, 2, 2}, "000111111000000",
			[]int64{0, 0, 8, 16, 24, 0, 0, 0, 0, 0, 0, 0, 8, 16, 24}},
		{200, []int64{200, 200, 190, 210, 400, 420, 430, 900, 200, 200, 200, 200, 200, 200, 2000, 2100, 220, 210, 200, 5000, 190, 180, 200, 200, 220, 200}, "00001111111100111111111100",
			[]int64{3498, 3419, 3427, 3435, 3443, 3451, 3459, 3467, 3475, 3461, 3458, 3466, 3462, 3470, 3478, 3486, 3494, 3484, 3492, 3500, 3454, 3389, 3397, 3405, 3413, 3421}},
		{300, []int64{20000, 10000, 5000, 2500, 1250, 600, 300, 150, 70, 40, 40, 40, 40, 90, 90, 90, 90, 90, 900, 90, 40, 40, 40, 40, 40, 40, 20, 20, 0, 0, 40}, "0000000000000111111111110000001",
			[]int64{6899, 6433, 5910, 5421, 4872, 4377, 3814, 3222, 2701, 2287, 2284, 2292, 2300, 2308, 2316, 2324, 2332, 2340, 2348, 2356, 2358, 2354, 2341, 2349, 2357, 2345, 1830, 1838, 0, 0, 8}},
		{400, long, "0" + strings.Repeat("1", 84) + "0000",
			append(longFloors, 3824, 3817, 3825, 3824, 3832, 3765, 3773, 3781)},
	} {
		m := vad.New()
		var said []bool
		var floors []int64
		for k, most := range c.most {
			said = append(said, m.Step(noise(c.seed+uint32(k), 80, most)))
			floors = append(floors, m.Floor())
		}
		if told(said) != c.said || !slices.Equal(floors, c.floors) {
			t.Errorf("P13.1: run %d: %s, floors %d; want %s, %d", i, told(said), floors, c.said, c.floors)
		}
	}
}

func TestStories(t *testing.T) {
	for seed := range uint64(60) {
		p, speech := newPair(), 0
		for _, x := range story(200+seed, 150) {
			if p.step(t, x) {
				speech++
			}
			p.floor(t)
		}
		if speech == 0 || speech == 150 {
			t.Errorf("story %d: %d sounds of 150 are speech", seed, speech)
		}
	}
}

// Quiet and loud in turn, so many of each.
func TestQuietAndLoud(t *testing.T) {
	for quiets := range 8 {
		for louds := range 8 {
			p := newPair()
			for n := range uint32(120) {
				most := int64(30)
				if int(n)%(quiets+louds+1) > quiets {
					most = 6000
				}
				p.step(t, noise(n, 80, most))
			}
		}
	}
}

// Sounds that rise and fall by so many percent, between two loudnesses, and start anew at once or turn back.
func TestRisingAndFalling(t *testing.T) {
	for _, percent := range []int64{101, 102, 105, 110, 130, 160, 200, 300, 1000} {
		for _, turning := range []bool{false, true} {
			p := newPair()
			most, up := int64(10000), true
			for n := range uint32(300) {
				p.step(t, noise(n, 40, most/100))
				switch {
				case up && most > 3000000 && turning:
					up = false
				case up && most > 3000000:
					most = 10000
				case most < 10000:
					up = true
				}
				if up {
					most = most*percent/100 + 1
				} else {
					most = most * 100 / percent
				}
			}
		}
	}
}

// All runs of seven sounds of five levels: these lie just and just not above one another.
func TestAllRunsOfFiveLevels(t *testing.T) {
	l := levels{}
	for _, five := range [][5]int64{{0, 256, 512, 594, 2300}, {3000, 3008, 3520, 3521, 3537}} {
		for code := range 5 * 5 * 5 * 5 * 5 * 5 * 5 {
			p := newPair()
			for range 7 {
				p.step(t, l.of(t, five[code%5]))
				code /= 5
			}
		}
	}
}

func TestAllRunsOfTwoLevels(t *testing.T) {
	for code := range 1 << 12 {
		p := newPair()
		p.step(t, flat(3, 20))
		for range 12 {
			p.step(t, flat(3, 20+int64(code%2)*2000))
			code /= 2
		}
	}
}

// What a Meter says hangs on what it was told alone: neither another one, nor Level, nor how often Floor is asked.
func TestMetersDoNotMeet(t *testing.T) {
	r := rand.New(rand.NewPCG(13, 4))
	a, b, c := newPair(), newPair(), newPair()
	loud, quiet, third := story(301, 200), story(302, 200), story(303, 200)
	for i := range 200 {
		a.step(t, loud[i])
		if r.IntN(3) == 0 {
			c.each(t, third[i], loud[i], third[i])
		}
		b.step(t, quiet[199-i])
		for range r.IntN(4) {
			vad.Level(loud[i])
			a.floor(t)
			b.floor(t)
			c.floor(t)
		}
		if fresh := vad.New(); fresh.Floor() != -1 {
			t.Fatalf("P13.1: Floor of a new Meter beside others: %d", fresh.Floor())
		}
	}
	d := vad.New()
	for i, x := range loud {
		d.Step(x)
		if f := a.h[:i+1].floor(); d.Floor() != f {
			t.Fatalf("P13.1: told the same, sound %d: floor %d, want %d", i, d.Floor(), f)
		}
	}
}
