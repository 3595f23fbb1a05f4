package vad_test

import (
	"math/big"
	"math/rand/v2"
	"slices"
	"sort"
	"testing"

	"madrigal/vad"
)

func flat(n int, v int64) []int64 { return slices.Repeat([]int64{v}, n) }

// noise is from -most to most.
func noise(seed uint32, n int, most int64) []int64 {
	l := make([]int64, n)
	for k := range l {
		seed = seed*1664525 + 1013904223
		l[k] = int64(seed>>8)%(2*most+1) - most
	}
	return l
}

// drawn is noise of some length, also none and more than a Level takes.
func drawn(r *rand.Rand, most int64) []int64 {
	n := []int{0, 1, 2, 80, 160, 480, 959, 960, 961, r.IntN(1300)}[r.IntN(10)]
	if r.IntN(8) > 0 {
		n = 80 + r.IntN(80)
	}
	return noise(r.Uint32(), n, most)
}

// squares are eight numbers whose squares are as many as asked for in all: the greatest square that fits is taken each time.
func squares(sum *big.Int) []int64 {
	l := make([]int64, 8)
	rest := new(big.Int).Set(sum)
	for i := range l {
		root := new(big.Int).Sqrt(rest)
		l[i] = -root.Int64()
		rest.Sub(rest, root.Mul(root, root))
	}
	return l
}

// ofLevel is a sound of just this level: below 2200 there are levels that no sound has.
func ofLevel(t *testing.T, level int64) []int64 {
	t.Helper()
	m := int64(sort.Search(1<<30, func(m int) bool { return logApart(big.NewInt(int64(m)+1)) >= level }))
	root := new(big.Int).Sqrt(big.NewInt(m)).Int64()
	for _, x := range [][]int64{{-root}, {-root - 1, -root - 1}, squares(big.NewInt(8 * m))} {
		if levelApart(x) == level && slices.Min(x) >= -32768 {
			return x
		}
	}
	t.Fatalf("no sound of level %d", level)
	return nil
}

// levels keeps sounds of levels.
type levels map[int64][]int64

func (l levels) of(t *testing.T, level int64) []int64 {
	t.Helper()
	if l[level] == nil {
		l[level] = ofLevel(t, level)
	}
	return l[level]
}

func turned(x []int64) []int64 {
	l := make([]int64, len(x))
	for i, v := range x {
		l[i] = -v
	}
	return l
}

// doubled has four times as much power.
func doubled(x []int64) []int64 {
	l := make([]int64, len(x))
	for i, v := range x {
		l[i] = 2 * v
	}
	return l
}

func TestSilence(t *testing.T) {
	for _, n := range []int{0, 1, 2, 80, 959, 960, 961, 5000} {
		mustLevel(t, "silence", make([]int64, n), 0)
		m := vad.New()
		for range 20 {
			if m.Step(make([]int64, n)) || m.Floor() != 0 {
				t.Errorf("P13.1: silence of %d samples is speech, or its floor %d", n, m.Floor())
			}
		}
	}
}

// A louder sound has no lower level, and of four times as much power 512 more: nearly so, as 1 is added to both and levels are told down.
func TestLouderSounds(t *testing.T) {
	for n := range uint32(400) {
		x := noise(n, 1+int(n*7)%1100, 20+int64(n)*40)
		quiet, loud := vad.Level(x), vad.Level(doubled(x))
		if d := loud - quiet; quiet > 2048 && (d < 510 || d > 514) {
			t.Errorf("P13.1: noise %d: Level %d, of twice as much %d", n, quiet, loud)
		}
	}
	last := int64(-1)
	for v := int64(0); v <= 32767; v++ {
		l := vad.Level(flat(3, v))
		if l < last || l > 7679 {
			t.Fatalf("P13.1: Level of %d: %d, below %d", v, l, last)
		}
		last = l
	}
}

// A sound with all its signs turned is as loud, where both stay within 16 bits.
func TestTurnedSounds(t *testing.T) {
	a, b := vad.New(), vad.New()
	r := rand.New(rand.NewPCG(13, 1))
	for range 600 {
		x := drawn(r, []int64{0, 3, 30, 300, 3000, 32767}[r.IntN(6)])
		if l, want := vad.Level(turned(x)), vad.Level(x); l != want {
			t.Fatalf("P13.1: Level of a turned sound: %d, want %d", l, want)
		}
		if a.Step(x) != b.Step(turned(x)) || a.Floor() != b.Floor() {
			t.Fatalf("P13.1: a turned sound is heard otherwise: %d, %d", a.Floor(), b.Floor())
		}
	}
	mustLevel(t, "the least", flat(5, -32768), 7680)
	mustLevel(t, "the least, turned", flat(5, 32768), 7679)
}
