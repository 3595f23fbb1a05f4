package levin_test

import (
	"slices"
	"testing"

	"madrigal/api"
	"madrigal/levin"
)

// foundOf is the filter that is found of a sound: each step on the way is held against the second reading.
func foundOf(t *testing.T, what string, x []int64, order int) []int64 {
	t.Helper()
	r := autoApart(x, order)
	mustAuto(t, what, x, order, r)
	a := mustSolveApart(t, what, r).answer
	mustRest(t, what, x, a, restApart(x, a))
	mustPower(t, what, restApart(x, a), powerApart(restApart(x, a)))
	return a
}

// What a filter has made tells it: as many numbers as it has are near to its own, and little more than what drove it is left.
func TestSoundsThatAFilterHasMade(t *testing.T) {
	filters := [][]int64{{3000}, {-3000}, {3900}, {-3900}, {0}, {5000, -2500}, {-5000, -2500}, {0, 3500}, {0, -3500}, {7000, -3600}, {6000, -5000, 1500}}
	filters = append(append(filters, rows(10)...), rows(16)...)
	for _, a := range filters {
		for seed := uint32(1); seed <= 3; seed++ {
			drive := noise(seed, 960)
			x := driven(drive, a)
			found := foundOf(t, "what a filter has made", x, len(a))
			for k, v := range found {
				if v-a[k] > 500 || a[k]-v > 500 {
					t.Errorf("P12.1: what %d has made is found to be made by %d", a, found)
				}
			}
			left, _ := levin.Rest(x, found)
			if p := levin.Power(left); p > levin.Power(drive)*11/10 || p > levin.Power(x) {
				t.Errorf("P12.2: of what %d has made %d are left, of %d, driven by %d", a, p, levin.Power(x), levin.Power(drive))
			}
		}
	}
}

// sounds that no filter has made.
func sounds() map[string][]int64 {
	steps, saw, peaks := make([]int64, 960), make([]int64, 960), make([]int64, 500)
	for k := range steps {
		steps[k] = int64(k/60%2)*20000 - 10000
		saw[k] = int64(k%37)*1700 - 31000
	}
	for k := 3; k < len(peaks); k += 71 {
		peaks[k] = 32767
	}
	return map[string][]int64{
		"silence":            make([]int64, 960),
		"none":               nil,
		"one sample":         {-500},
		"a pulse":            only(32767, 0, 960),
		"a pulse at the end": only(-32768, 959, 960),
		"one over and over":  repeat(1, 960),
		"all at the edge":    repeat(-32768, 960),
		"to and fro":         slices.Repeat([]int64{32767, -32768}, 480),
		"every third":        slices.Repeat([]int64{1000, 0, 0}, 200),
		"steps":              steps,
		"a saw":              saw,
		"peaks":              peaks,
		"noise":              noise(5, 960),
		"little noise":       all(noise(6, 700), func(v int64) int64 { return v / 150 }),
		"beyond what may be": all(noise(7, 960), func(v int64) int64 { return v * 1000 }),
		"far beyond":         all(noise(8, 300), func(v int64) int64 { return v << 40 }),
	}
}

func TestSoundsThatNoFilterHasMade(t *testing.T) {
	for what, x := range sounds() {
		for _, order := range []int{1, 2, 3, 10, 16, 31, 32} {
			a := foundOf(t, what, x, order)
			if len(x) < 2 && slices.Max(a) > 0 {
				t.Errorf("P12.1: %s: %d", what, a)
			}
			foundOf(t, what+", with its signs turned", all(x, func(v int64) int64 { return -within16(v) }), order)
		}
	}
}

// The filter of silence is silent, and nothing is left of silence.
func TestSilence(t *testing.T) {
	for order := 1; order <= 32; order++ {
		for _, n := range []int{0, 1, 2, 33, 960} {
			r, e := levin.Auto(make([]int64, n), order)
			if e != api.OK || !slices.Equal(r, make([]int64, order+1)) {
				t.Errorf("P12.1: Auto of silence: %d, %d", r, e)
			}
			mustSolve(t, "silence", r, make([]int64, order))
			mustRest(t, "silence", make([]int64, n), repeat(-1<<17, order), make([]int64, n))
			mustPower(t, "silence", make([]int64, n), 0)
		}
	}
}
