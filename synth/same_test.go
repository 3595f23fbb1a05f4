package synth_test

import (
	"testing"

	"madrigal/synth"
)

func mustSame(t *testing.T, what string, v, w *synth.Voice, want bool) {
	t.Helper()
	if v.Same(w) != want || w.Same(v) != want {
		t.Fatalf("P10.2: %s: Same is %t, %t, want %t", what, v.Same(w), w.Same(v), want)
	}
	if !v.Same(v) || !w.Same(w) {
		t.Fatalf("P10.2: %s: a voice is not the same as itself", what)
	}
}

// lively is a part of so many pulses.
func lively(n int) synth.Part {
	p := synth.Part{Pulses: make([]int64, n), Loud: 700, Lag: 3 + n%316, Taps: [5]int64{13, 22, 39, 23, 12}, Filter: []int64{5000, -2100, 300}}
	for k := range p.Pulses {
		p.Pulses[k] = int64((k+n)*(k+3)%9) - 3
	}
	p.Pulses[0], p.Pulses[n-1] = 3, 5
	return p
}

// quiet is no pulses, and nothing that goes on.
func quiet(n int) synth.Part { return synth.Part{Pulses: make([]int64, n)} }

func mustGoOn(t *testing.T, v *synth.Voice, h *history, n int) {
	t.Helper()
	mustRun(t, v, lively(n), h.run(lively(n)))
}

func TestNew(t *testing.T) {
	v := synth.New()
	mustSame(t, "two new ones", v, synth.New(), true)
	mustSame(t, "a copy of a new one", v, v.Copy(), true)
	v.Reset()
	mustSame(t, "a new one behind Reset", v, synth.New(), true)
	mustGoOn(t, v, &history{}, 9)
	mustSame(t, "a new one beside one that ran", synth.New(), synth.New(), true)
	mustGoOn(t, synth.New(), &history{}, 9)
}

// Behind a run of each length a copy goes its own way, in either direction, and Reset makes one new.
func TestCopyAndReset(t *testing.T) {
	for n := 1; n <= 480; n++ {
		v, h := synth.New(), &history{}
		mustGoOn(t, v, h, 1+n*7%480)
		mustGoOn(t, v, h, n)
		w, g := v.Copy(), h.copied()
		mustSame(t, "a copy", v, w, true)
		mustSame(t, "one that ran", v, synth.New(), false)

		mustGoOn(t, v, h, 11)
		mustSame(t, "a copy, when the first one ran", v, w, false)
		mustGoOn(t, w, g, 11)
		mustSame(t, "a copy that ran, too", v, w, true)
		mustGoOn(t, w, g, 1)
		mustSame(t, "a copy, when it ran by itself", v, w, false)
		mustGoOn(t, v, h, 1)
		mustSame(t, "both, once more", v, w, true)

		// A copy of a copy, and one of them is made new.
		u := w.Copy()
		w.Reset()
		g.reset()
		mustSame(t, "a copy behind Reset", w, synth.New(), true)
		mustSame(t, "the first one, when its copy was made new", v, u, true)
		mustSame(t, "the first one and its new copy", v, w, false)
		mustGoOn(t, w, g, n)
		mustGoOn(t, v, h, n)
		u.Reset()
		mustSame(t, "another one behind Reset", u, synth.New(), true)
		mustGoOn(t, u, &history{}, n)
		mustSame(t, "two that were made new", u, w, true)
	}
}

// apartInDriven are two voices that differ in one sample of r alone, the newest: o is the same by the filter.
func apartInDriven() (v, w *synth.Voice) {
	v = synth.New()
	v.Run(synth.Part{Pulses: []int64{1}, Loud: 32})
	w = v.Copy()
	v.Run(synth.Part{Pulses: []int64{1}, Loud: 16})
	w.Run(synth.Part{Pulses: []int64{0}, Filter: []int64{2048}})
	return v, w
}

// apartInOut are two that differ in one sample of o alone, the newest.
func apartInOut() (v, w *synth.Voice) {
	v = synth.New()
	v.Run(synth.Part{Pulses: []int64{1}, Loud: 32})
	w = v.Copy()
	v.Run(synth.Part{Pulses: []int64{0}})
	w.Run(synth.Part{Pulses: []int64{0}, Filter: []int64{2048}})
	return v, w
}

// Two that differ in one sample of r, from the newest that is kept to the eldest: they are not the same, and a lag that reaches there tells them apart. One sample later they are the same.
func TestSameOfDriven(t *testing.T) {
	for k := range 324 {
		v, w := apartInDriven()
		if k > 0 {
			v.Run(quiet(k))
			w.Run(quiet(k))
		}
		mustSame(t, "one sample of r", v, w, k >= 320)
		p := synth.Part{Pulses: []int64{0}, Lag: min(max(k+1, 3), 318)}
		if k >= 320 {
			p.Taps = [5]int64{128, 128, 128, 128, 128}
			mustRun(t, v, p, []int64{0})
			mustRun(t, w, p, []int64{0})
			continue
		}
		p.Taps[k+3-p.Lag] = 128
		mustRun(t, v, p, []int64{16})
		mustRun(t, w, p, []int64{0})
	}
}

// The same of o, and a filter that reaches there.
func TestSameOfOut(t *testing.T) {
	for k := range 36 {
		v, w := apartInOut()
		if k > 0 {
			v.Run(quiet(k))
			w.Run(quiet(k))
		}
		mustSame(t, "one sample of o", v, w, k >= 32)
		p := synth.Part{Pulses: []int64{0}, Filter: only(4096, min(k, 31), 32)}
		mustRun(t, v, p, []int64{0})
		if k < 32 {
			mustRun(t, w, p, []int64{16})
		} else {
			mustRun(t, w, p, []int64{0})
		}
	}
}

// Two that come to the same samples by other ways are the same.
func TestSameByOtherWays(t *testing.T) {
	run := func(parts ...synth.Part) *synth.Voice {
		v := synth.New()
		for _, p := range parts {
			v.Run(p)
		}
		return v
	}
	plain := run(synth.Part{Pulses: []int64{4, 0, 0, 4, 2}, Loud: 8})
	for _, c := range []struct {
		what  string
		other *synth.Voice
		want  bool
	}{
		{"other loudness", run(synth.Part{Pulses: []int64{2, 0, 0, 2, 1}, Loud: 16}), true},
		{"cut", run(synth.Part{Pulses: []int64{4}, Loud: 8}, synth.Part{Pulses: []int64{0}, Loud: 1}, synth.Part{Pulses: []int64{0, 16, 8}, Loud: 2}), true},
		{"a lag", run(synth.Part{Pulses: []int64{4, 0, 0, 0, 2}, Loud: 8, Lag: 3, Taps: [5]int64{0, 0, 128}}), true},
		{"a lag and a pulse", run(synth.Part{Pulses: []int64{2, 0, 0, 1, 1}, Loud: 16, Lag: 5, Taps: [5]int64{64}}), true},
		{"a filter of noughts", run(synth.Part{Pulses: []int64{4, 0, 0, 4, 2}, Loud: 8, Filter: make([]int64, 32)}), true},
		{"taps without a lag", run(synth.Part{Pulses: []int64{4, 0, 0, 4, 2}, Loud: 8, Taps: [5]int64{128, 128, 1, 2, 3}}), true},
		{"silence ahead", run(quiet(77), synth.Part{Pulses: []int64{4, 0, 0, 4, 2}, Loud: 8}), true},
		{"noise that is long past", run(lively(480), quiet(480), synth.Part{Pulses: []int64{4, 0, 0, 4, 2}, Loud: 8}), true},
		{"noise that is just past", run(synth.Part{Pulses: []int64{1}, Loud: 5}, quiet(315), synth.Part{Pulses: []int64{4, 0, 0, 4, 2}, Loud: 8}), true},
		{"noise that is not past", run(synth.Part{Pulses: []int64{1}, Loud: 5}, quiet(314), synth.Part{Pulses: []int64{4, 0, 0, 4, 2}, Loud: 8}), false},
		{"one behind", run(synth.Part{Pulses: []int64{4, 0, 0, 4, 2, 0}, Loud: 8}), false},
		{"another sign", run(synth.Part{Pulses: []int64{-4, 0, 0, -4, -2}, Loud: 8}), false},
		{"a filter that does something", run(synth.Part{Pulses: []int64{4, 0, 0, 4, 2}, Loud: 8, Filter: []int64{0, 64}}), false},
	} {
		mustSame(t, c.what, plain, c.other, c.want)
	}
	silent := run(lively(200), lively(33))
	silent.Run(quiet(319))
	mustSame(t, "nearly silent", silent, synth.New(), false)
	silent.Run(quiet(1))
	mustSame(t, "silent at last", silent, synth.New(), true)
}

// A part that is cut in two, at each place, and one that is cut into single pulses.
func TestCutAtEachPlace(t *testing.T) {
	for _, n := range []int{2, 3, 40, 321, 479, 480} {
		for _, start := range []int{0, 1, 31, 330} {
			before := synth.New()
			if start > 0 {
				before.Run(lively(start))
			}
			p := lively(n)
			whole := before.Copy()
			want, _ := whole.Run(p)
			for at := 1; at < n; at++ {
				v := before.Copy()
				q := p
				q.Pulses = p.Pulses[:at]
				mustRun(t, v, q, want[:at])
				mustSame(t, "the first piece", v, whole, false)
				q.Pulses = p.Pulses[at:]
				mustRun(t, v, q, want[at:])
				mustSame(t, "a part that is cut", v, whole, true)
			}
			for at := range n {
				q := p
				q.Pulses = p.Pulses[at : at+1]
				mustRun(t, before, q, want[at:at+1])
			}
			mustSame(t, "single pulses", before, whole, true)
		}
	}
}
