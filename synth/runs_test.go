package synth_test

import (
	"math/rand/v2"
	"testing"

	"madrigal/synth"
)

// drawnPlaces fills a list: seldom, mostly or everywhere.
func drawnPlaces(r *rand.Rand, n int, most int64) []int64 {
	l := make([]int64, n)
	share := []float64{0, 0.03, 0.5, 1}[r.IntN(4)]
	for k := range l {
		if r.Float64() < share {
			l[k] = r.Int64N(2*most+1) - most
		}
	}
	return l
}

// drawnGood is a part: a filter that dies away or does not, a lag or none, of one pulse, of few or of many.
func drawnGood(r *rand.Rand) synth.Part {
	p := synth.Part{Pulses: drawnPlaces(r, []int{1, 1 + r.IntN(480), 1 + r.IntN(40), 480, 80}[r.IntN(5)], 16), Loud: r.Int64N(1<<r.IntN(19) + 1)}
	if r.IntN(3) > 0 {
		p.Lag = []int{3 + r.IntN(316), 3 + r.IntN(20), 300 + r.IntN(19)}[r.IntN(3)]
	}
	for j := range p.Taps {
		p.Taps[j] = (r.Int64N(257) - 128) >> r.IntN(5)
	}
	if r.IntN(6) == 0 {
		p.Taps = [5]int64{128, 128, 128, 128, 128}
	}
	p.Filter = drawnPlaces(r, []int{0, r.IntN(33), 10, 16, 32}[r.IntN(5)], 1<<[]int{6, 8, 10, 11, 13, 17}[r.IntN(6)])
	return p
}

// drawnWrong breaks a part at one place.
func drawnWrong(r *rand.Rand) synth.Part {
	p := drawnGood(r)
	v := far[r.IntN(len(far))]
	switch r.IntN(6) {
	case 0:
		p.Pulses = nil
	case 1:
		p.Pulses[r.IntN(len(p.Pulses))] = v
	case 2:
		p.Loud = v
	case 3:
		p.Lag = int(v)
	case 4:
		p.Taps[r.IntN(5)] = v
	case 5:
		p.Filter = append(p.Filter, v)
	}
	return p
}

// met counts what runs came to.
type met map[string]int

func (m met) note(h *history) {
	for what, did := range map[string]bool{
		"r is clamped": h.clampedR, "o is clamped": h.clampedO, "a lag reaches into this run": h.thisRun, "into the run before": h.runBefore,
		"behind the first sample": h.behindFirst, "a filter longer than what came out": h.longFilter,
	} {
		if did {
			m[what]++
		}
	}
	*h = history{r: h.r, o: h.o}
}

// Some voices, each with its history: parts that are good and wrong, copies, Reset, and who is the same as whom.
func TestRuns(t *testing.T) {
	r := rand.New(rand.NewPCG(10, 1))
	m := met{}
	for range 120 {
		v, h := []*synth.Voice{synth.New()}, []*history{{}}
		for range 30 {
			k := r.IntN(len(v))
			switch r.IntN(9) {
			case 0:
				v, h = append(v, v[k].Copy()), append(h, h[k].copied())
			case 1:
				if r.IntN(3) == 0 {
					v[k].Reset()
					h[k].reset()
				}
			case 2:
				mustRefuse(t, "a drawn part", v[k], drawnWrong(r))
			case 3:
				mustRun(t, v[k], quiet(320), h[k].run(quiet(320)))
			default:
				p := drawnGood(r)
				mustRun(t, v[k], p, h[k].run(p))
				m.note(h[k])
			}
			other := r.IntN(len(v))
			mustSame(t, "two that were drawn", v[k], v[other], h[k].same(h[other]))
			m["the same: "+map[bool]string{true: "yes", false: "no"}[h[k].same(h[other])]]++
		}
	}
	for _, what := range []string{
		"r is clamped", "o is clamped", "a lag reaches into this run", "into the run before", "behind the first sample", "a filter longer than what came out",
		"the same: yes", "the same: no",
	} {
		if m[what] < 40 {
			t.Errorf("P10.1: only %d times: %s", m[what], what)
		}
	}
}

// One voice through many parts of one kind, as a frame's subframes are.
func TestLongRuns(t *testing.T) {
	r := rand.New(rand.NewPCG(10, 2))
	for _, n := range []int{1, 40, 80, 480} {
		v, h := synth.New(), &history{}
		for range 200 {
			p := drawnGood(r)
			p.Pulses = drawnPlaces(r, n, 16)
			mustRun(t, v, p, h.run(p))
		}
	}
}
