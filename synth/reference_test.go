package synth_test

import (
	"slices"

	"madrigal/synth"
)

// Chapter 10 read a second time: all samples are kept, from the first one that there ever was. Nothing of fix is taken: products are reckoned from their remainders.

// floored is a divided by b (above 0), down.
func floored(a, b int64) int64 {
	rest := a % b
	if rest < 0 {
		rest += b
	}
	return (a - rest) / b
}

func within(v, lo, hi int64) int64 {
	if v < lo {
		return lo
	}
	if v > hi {
		return hi
	}
	return v
}

func within24(v int64) int64 { return within(v, -1<<24, 1<<24) }

// product is of numbers whose product has at most 62 bits.
func product(a, b int64, s int) int64 {
	unit := int64(1) << s
	return floored(a*b+unit/2, unit)
}

// history is a voice: what drove the filter, and what came out. The others tell what its runs met.
type history struct {
	r, o []int64

	clampedR, clampedO bool
	thisRun, runBefore bool // where a lag reached
	behindFirst        bool
	longFilter         bool // longer than what had come out
}

// ahead is the sample that stands n ahead of the next one.
func ahead(l []int64, n int) int64 {
	if n > len(l) {
		return 0
	}
	return l[len(l)-n]
}

func (h *history) run(p synth.Part) []int64 {
	begin := len(h.o)
	for i := range p.Pulses {
		r := p.Pulses[i] * p.Loud
		if p.Lag > 0 {
			for j := range 5 {
				r += product(p.Taps[j], ahead(h.r, p.Lag-2+j), 7)
				h.reached(begin, p.Lag-2+j)
			}
		}
		h.clampedR = h.clampedR || r != within24(r)
		r = within24(r)
		o := r
		for k := range p.Filter {
			o += product(p.Filter[k], ahead(h.o, k+1), 12)
		}
		h.clampedO = h.clampedO || o != within24(o)
		h.longFilter = h.longFilter || len(p.Filter) > len(h.o)
		h.r, h.o = append(h.r, r), append(h.o, within24(o))
	}
	return slices.Clone(h.o[begin:])
}

// reached notes where the sample stands that is n ahead of the next one, in a run that began so.
func (h *history) reached(begin, n int) {
	switch place := len(h.r) - n; {
	case place < 0:
		h.behindFirst = true
	case place < begin:
		h.runBefore = true
	default:
		h.thisRun = true
	}
}

func (h *history) reset() { h.r, h.o = nil, nil }

func (h *history) copied() *history {
	return &history{r: slices.Clone(h.r), o: slices.Clone(h.o)}
}

func (h *history) same(g *history) bool {
	for n := 1; n <= 320; n++ {
		if ahead(h.r, n) != ahead(g.r, n) {
			return false
		}
	}
	for n := 1; n <= 32; n++ {
		if ahead(h.o, n) != ahead(g.o, n) {
			return false
		}
	}
	return true
}

// goodApart looks for what is not good.
func goodApart(p synth.Part) bool {
	if len(p.Pulses) == 0 || len(p.Pulses) > 480 || len(p.Filter) > 32 {
		return false
	}
	if p.Loud < 0 || p.Loud > 262144 || p.Lag < 0 || p.Lag == 1 || p.Lag == 2 || p.Lag > 318 {
		return false
	}
	for _, v := range p.Pulses {
		if v != within(v, -16, 16) {
			return false
		}
	}
	for _, v := range p.Taps {
		if v != within(v, -128, 128) {
			return false
		}
	}
	for _, v := range p.Filter {
		if v != within(v, -131072, 131072) {
			return false
		}
	}
	return true
}
