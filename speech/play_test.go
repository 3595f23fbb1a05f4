package speech_test

import (
	"slices"
	"testing"

	"madrigal/api"
	"madrigal/gain"
	"madrigal/lpc"
	"madrigal/lsf"
	"madrigal/speech"
	"madrigal/synth"
)

// The chapter's example, at each rate and length, of any gains and frequencies.
func TestSilentFramesOfASilentPlayer(t *testing.T) {
	for _, w := range forms {
		p := newPlayer(t, w.rate)
		for turn := range 30 {
			f := w.voiced(0, turn)
			f.Gains = slices.Repeat([]int{turn * 2, 63}, w.subframes()/2)
			if l, x := p.Play(w.ms, f); x != api.OK || !slices.Equal(l, make([]int64, w.samples())) {
				t.Fatalf("P14.3: %v: a silent frame: %d, %d", w, l, x)
			}
			if p.Gain() != 63 {
				t.Fatalf("P14.3: %v: Gain behind a silent frame: %d", w, p.Gain())
			}
		}
	}
}

func TestNewOfARateThatIsNone(t *testing.T) {
	for _, rate := range noRates {
		if p, x := speech.New(rate); p != nil || x != api.EARG {
			t.Errorf("P14.3: New(%d): %v, %d, want EARG", rate, p, x)
		}
	}
}

// Frames of all Kinds one behind the other, of one length and of both in turn, some of them Fresh.
func TestFramesOneBehindTheOther(t *testing.T) {
	for _, rate := range []int{8000, 16000} {
		for n := range 9 {
			p, h := newPlayer(t, rate), newHistory(rate)
			if p.Gain() != 20 {
				t.Fatalf("P14.3: Gain at first: %d", p.Gain())
			}
			for turn := range 30 {
				w := form{rate, 10 + 10*(turn*n/3%2)}
				mustPlay(t, p, h, w.ms, w.voiced((turn*turn+n)%3, turn+n))
			}
		}
	}
}

// plainFrame is one that a filter hardly colours: each pulse is heard at its place.
func (w form) plainFrame(kind int) speech.Frame {
	f := speech.Frame{Kind: kind, Between: 2, Lsf: lsf.Index{One: 5, Two: make([]int, w.order())}, Gains: slices.Repeat([]int{40}, w.subframes())}
	if kind == 2 {
		least, _ := w.lags()
		f.Ltps = slices.Repeat([]gain.Ltp{{Lag: least, Taps: 3}}, w.subframes())
	}
	if kind > 0 {
		f.Pulses = make([]int64, w.samples())
		for k := 0; k < len(f.Pulses); k += w.subframe() / 4 {
			f.Pulses[k] = 3 - int64(k%7)
		}
	}
	return f
}

// firstChange is the first sample at which two frames sound unlike, by copies of one Player: past all of them, if none.
func firstChange(t *testing.T, p *speech.Player, ms int, f, g speech.Frame) int {
	t.Helper()
	a, x := p.Copy().Play(ms, f)
	b, y := p.Copy().Play(ms, g)
	if x != api.OK || y != api.OK || len(a) != len(b) || len(a) == 0 {
		t.Fatalf("P14.3: Play: %d, %d samples; %d, %d", len(a), len(b), x, y)
	}
	for k := range a {
		if a[k] != b[k] {
			return k
		}
	}
	return len(a)
}

// behind is a Player that has played these.
func behind(t *testing.T, w form, ahead ...speech.Frame) *speech.Player {
	t.Helper()
	p, h := newPlayer(t, w.rate), newHistory(w.rate)
	for _, f := range ahead {
		mustPlay(t, p, h, w.ms, f)
	}
	return p
}

// Each pulse is heard first at its own place.
func TestEachPulse(t *testing.T) {
	for _, w := range forms {
		for kind := 1; kind <= 2; kind++ {
			f, p := w.plainFrame(kind), newPlayer(t, w.rate)
			for k := range f.Pulses {
				g := cloned(f)
				g.Pulses[k]++
				if at := firstChange(t, p, w.ms, f, g); at != k {
					t.Fatalf("P14.3: %v: pulse %d is heard at %d", w, k, at)
				}
			}
		}
	}
}

// Each subframe's loudness is heard with its first pulse, and does nothing ahead of it.
func TestEachLoudness(t *testing.T) {
	for _, w := range forms {
		for kind := 1; kind <= 2; kind++ {
			f, p := w.plainFrame(kind), newPlayer(t, w.rate)
			clear(f.Pulses)
			for i := range f.Gains {
				f.Pulses[i*w.subframe()+7] = 5
			}
			for i := range f.Gains {
				for _, change := range []int{-1, 1, 20, -40} {
					g := cloned(f)
					g.Gains[i] += change
					if at := firstChange(t, p, w.ms, f, g); at != i*w.subframe()+7 {
						t.Fatalf("P14.3: %v: gain %d is heard at %d", w, i, at)
					}
				}
			}
		}
	}
}

// How loud one pulse is, by hand: the sample itself is Loud / 16, as the voice was silent.
func TestLoudnessByHand(t *testing.T) {
	for g, want := range map[int]int64{0: 0, 10: 0, 14: 1, 20: 3, 30: 18, 40: 123, 50: 816, 60: 5428, 62: 7930, 63: 9585} {
		for _, w := range forms {
			for at := range w.subframes() {
				f := w.plainFrame(1)
				clear(f.Pulses)
				f.Gains[at] = g
				k := at * w.subframe()
				f.Pulses[k] = 1
				l, _ := newPlayer(t, w.rate).Play(w.ms, f)
				if l[k] != want || !slices.Equal(l[:k], make([]int64, k)) {
					t.Errorf("P14.3: %v: a pulse of gain %d: %d, want %d", w, g, l[k], want)
				}
				f.Pulses[k] = -3
				l, _ = newPlayer(t, w.rate).Play(w.ms, f)
				if three := (-3*gain.Loud(g) + 8) >> 4; l[k] != three {
					t.Errorf("P14.3: %v: three pulses of gain %d: %d, want %d", w, g, l[k], three)
				}
			}
		}
	}
}

// lively is a frame ahead, of which much can repeat.
func (w form) lively() []speech.Frame {
	var l []speech.Frame
	for turn := range 4 {
		f := w.voiced(1, turn)
		f.Gains = slices.Repeat([]int{45}, w.subframes())
		l = append(l, f)
	}
	return l
}

// Each subframe has its own Lag and Taps, and they do nothing ahead of it.
func TestEachLagAndTaps(t *testing.T) {
	for _, w := range forms {
		f, p := w.plainFrame(2), behind(t, w, w.lively()...)
		clear(f.Pulses)
		least, most := w.lags()
		for i := range f.Ltps {
			f.Ltps[i] = gain.Ltp{Lag: least + 50, Taps: 3}
		}
		for i := range f.Ltps {
			begin, end := i*w.subframe(), (i+1)*w.subframe()
			for lag := least; lag <= most; lag++ {
				g := cloned(f)
				g.Ltps[i].Lag = lag
				if at := firstChange(t, p, w.ms, f, g); lag != least+50 && (at < begin || at >= end) {
					t.Fatalf("P14.3: %v: Lag %d of subframe %d is heard at %d", w, lag, i, at)
				}
			}
			for taps := range 8 {
				g := cloned(f)
				g.Ltps[i].Taps = taps
				if at := firstChange(t, p, w.ms, f, g); taps != 3 && (at < begin || at >= end) {
					t.Fatalf("P14.3: %v: Taps %d of subframe %d are heard at %d", w, taps, i, at)
				}
			}
		}
	}
}

// What repeats is what drove the filter, so many samples behind, of each rate's least and greatest lag too. By hand: Taps 6 is three quarters of one sample, the lag's own.
func TestWhatRepeats(t *testing.T) {
	for _, w := range forms {
		least, most := w.lags()
		for _, lag := range []int{least, least + 1, w.subframe() - 1, w.subframe(), w.subframe() + 1, 100, most - 1, most} {
			p, v := newPlayer(t, w.rate), synth.New()
			f := w.plainFrame(2)
			clear(f.Pulses)
			f.Pulses[0] = 4
			f.Ltps = slices.Repeat([]gain.Ltp{{Lag: lag, Taps: 6}}, w.subframes())
			drive := make([]int64, 3*w.samples())
			drive[0] = 4 * gain.Loud(40)
			for n := lag; n < len(drive); n++ {
				drive[n] = (96*drive[n-lag] + 64) >> 7
			}
			var got []int64
			for range 3 {
				l, _ := p.Play(w.ms, f)
				got = append(got, l...)
				f.Pulses[0] = 0
			}
			if want := filtered(v, w, f, drive); !slices.Equal(got, want) {
				t.Errorf("P14.3: %v: Lag %d: %d, want %d", w, lag, got, want)
			}
		}
	}
}

// filtered is what a filter makes of what drives it, by frames of an Index all the same: single pulses drive the voice, one loudness each.
func filtered(v *synth.Voice, w form, f speech.Frame, drive []int64) []int64 {
	l, _ := lsf.Decode(w.order(), f.Lsf)
	ahead := evenOf[w.order()]
	var all []int64
	for n, r := range drive {
		if n%w.samples() == 0 && n > 0 {
			ahead = l
		}
		between := l
		if n%w.samples() < w.samples()/2 {
			between, _ = lsf.Between(ahead, l, f.Between)
		}
		a, _ := lpc.From(between)
		p := synth.Part{Pulses: []int64{1}, Loud: r, Filter: a}
		if r < 0 {
			p.Pulses[0], p.Loud = -1, -r
		}
		o, _ := v.Run(p)
		all = append(all, o...)
	}
	return synth.Pcm(all)
}

// ringing is a frame whose pulses come early in each half, so that the filter of a half can be heard by itself.
func (w form) ringing(one, between int) speech.Frame {
	f := w.plainFrame(1)
	f.Lsf.One, f.Between = one, between
	clear(f.Pulses)
	f.Pulses[0], f.Pulses[w.samples()/2] = 9, 9
	f.Gains = slices.Repeat([]int{60}, w.subframes())
	return f
}

// The filter of the first half goes from the frequencies ahead to the frame's own by quarters; that of the second half has these, whatever Between is.
func TestEachBetween(t *testing.T) {
	for _, w := range forms {
		half := w.samples() / 2
		for between := range 5 {
			p, v := newPlayer(t, w.rate), synth.New()
			ahead := evenOf[w.order()]
			for n, one := range []int{3, 12, 12, 0, 15, 7} {
				f := w.ringing(one, between)
				if n%2 == 1 {
					f.Lsf.Two = w.voiced(0, n).Lsf.Two
				}
				own, _ := lsf.Decode(w.order(), f.Lsf)
				mid := make([]int64, w.order())
				for k := range mid {
					// Down, by a shift.
					mid[k] = ahead[k] + (own[k]-ahead[k])*int64(between)>>2
				}
				a, _ := lpc.From(mid)
				b, _ := lpc.From(own)
				loud := gain.Loud(60)
				x, _ := v.Run(synth.Part{Pulses: f.Pulses[:half], Loud: loud, Filter: a})
				y, _ := v.Run(synth.Part{Pulses: f.Pulses[half:], Loud: loud, Filter: b})
				want := synth.Pcm(append(x, y...))
				if l, _ := p.Play(w.ms, f); !slices.Equal(l, want) {
					t.Fatalf("P14.3: %v, Between %d: frame %d: %d, want %d", w, between, n, l, want)
				}
				ahead = own
			}
		}
	}
}

// Where a frame's own frequencies, its Between, and the frequencies ahead are heard first.
func TestWhereFiltersAreHeard(t *testing.T) {
	for _, w := range forms {
		half := w.samples() / 2
		ahead := behind(t, w, w.ringing(3, 2))
		for between := range 5 {
			f := w.ringing(9, between)
			for _, g := range []speech.Frame{w.ringing(10, between), w.ringing(2, between)} {
				at := firstChange(t, ahead, w.ms, f, g)
				if between == 0 && (at < half || at == w.samples()) || between > 0 && at >= half {
					t.Errorf("P14.3: %v, Between %d: One is heard at %d", w, between, at)
				}
			}
			for other := range 5 {
				if at := firstChange(t, ahead, w.ms, f, w.ringing(9, other)); other != between && at >= half {
					t.Errorf("P14.3: %v, Between %d and %d: heard at %d", w, between, other, at)
				}
			}
			// Frequencies that stay are the same at each quarter.
			if at := firstChange(t, ahead, w.ms, w.ringing(3, 2), w.ringing(3, between)); at != w.samples() {
				t.Errorf("P14.3: %v, Between %d of frequencies that stay: heard at %d", w, between, at)
			}
		}
		// With Between 4 a frame does not ask for the frequencies ahead: of one that only its frequencies told apart nothing is heard.
		for between := range 5 {
			p, q := newPlayer(t, w.rate), newPlayer(t, w.rate)
			f := w.plainFrame(0)
			p.Play(w.ms, f)
			f.Lsf.One = 14
			q.Play(w.ms, f)
			a, _ := p.Play(w.ms, w.ringing(6, between))
			b, _ := q.Play(w.ms, w.ringing(6, between))
			if slices.Equal(a[:half], b[:half]) != (between == 4) {
				t.Errorf("P14.3: %v, Between %d: the frequencies ahead are heard %t", w, between, between == 4)
			}
		}
	}
}

// The frequencies ahead of the first frame are heard with Between 0: each of them, down and no other.
func TestFrequenciesAheadOfTheFirst(t *testing.T) {
	heard := 0
	for _, w := range forms {
		even := evenOf[w.order()]
		for k, v := range even {
			if v != int64((k+1)*32768/(w.order()+1)) {
				t.Fatalf("the frequency %d by hand: %d", k, v)
			}
		}
		f := w.ringing(7, 0)
		f.Gains = slices.Repeat([]int{63}, w.subframes())
		f.Pulses[0] = 16
		half := w.samples() / 2
		first := func(l []int64) []int64 {
			a, _ := lpc.From(l)
			o, _ := synth.New().Run(synth.Part{Pulses: f.Pulses[:half], Loud: gain.Loud(63), Filter: a})
			return synth.Pcm(o)
		}
		p := newPlayer(t, w.rate)
		for range 2 {
			l, _ := p.Play(w.ms, f)
			if !slices.Equal(l[:half], first(even)) {
				t.Errorf("P14.3: %v: the first half of the first frame: %d, want %d", w, l[:half], first(even))
			}
			for k := range even {
				for _, change := range []int64{-1, 1} {
					other := slices.Clone(even)
					other[k] += change
					if !slices.Equal(first(other), first(even)) {
						heard++
					}
				}
			}
			p.Reset()
		}
	}
	// That the test can tell one more or less of a frequency.
	if heard < 100 {
		t.Errorf("only %d changes of a frequency by one are heard", heard)
	}
}

// Kind 0: noughts drive the filter, and what rings on from the frames ahead is heard.
func TestSilentFrameRingsOn(t *testing.T) {
	for _, w := range forms {
		for kind := 1; kind <= 2; kind++ {
			p, h := newPlayer(t, w.rate), newHistory(w.rate)
			f := w.voiced(kind, 2)
			f.Gains = slices.Repeat([]int{63}, w.subframes())
			f.Pulses[w.samples()-1] = 9
			mustPlay(t, p, h, w.ms, f)
			quiet := w.plainFrame(0)
			l := mustPlay(t, p, h, w.ms, quiet)
			if slices.Equal(l, make([]int64, w.samples())) {
				t.Errorf("P14.3: %v: nothing rings on", w)
			}
			// Its gains do nothing to that.
			ahead := behind(t, w, f)
			for _, g := range []int{0, 63} {
				loud := cloned(quiet)
				loud.Gains = slices.Repeat([]int{g}, w.subframes())
				if at := firstChange(t, ahead, w.ms, quiet, loud); at != w.samples() {
					t.Errorf("P14.3: %v: gain %d of a silent frame is heard at %d", w, g, at)
				}
			}
			// A noisy one of no pulses is the same.
			noisy := cloned(quiet)
			noisy.Kind, noisy.Pulses = 1, make([]int64, w.samples())
			if at := firstChange(t, ahead, w.ms, quiet, noisy); at != w.samples() {
				t.Errorf("P14.3: %v: noise of no pulses is heard at %d", w, at)
			}
		}
	}
}

// Only a frame of Kind 2 repeats what drove the filter.
func TestOthersDoNotRepeat(t *testing.T) {
	for _, w := range forms {
		noisy, p := w.plainFrame(1), behind(t, w, w.lively()...)
		twice := cloned(noisy)
		twice.Kind = 2
		for taps := range 8 {
			twice.Ltps = slices.Repeat([]gain.Ltp{{Lag: 40, Taps: taps}}, w.subframes())
			if at := firstChange(t, p, w.ms, noisy, twice); at >= w.subframe() {
				t.Errorf("P14.3: %v: Taps %d are heard at %d", w, taps, at)
			}
		}
	}
}

// What is too loud for 16 bits is brought to their ends; the voice goes on with what it was.
func TestPcmOfLoudFrames(t *testing.T) {
	for _, w := range forms {
		for _, sign := range []int64{1, -1} {
			p, h := newPlayer(t, w.rate), newHistory(w.rate)
			f := w.plainFrame(1)
			f.Gains = slices.Repeat([]int{63}, w.subframes())
			for k := range f.Pulses {
				f.Pulses[k] = sign
				if k%16 == 0 {
					f.Pulses[k] = 0
				}
			}
			f.Pulses[0] = sign
			f.Lsf.Two = slices.Repeat([]int{-4}, w.order())
			l := mustPlay(t, p, h, w.ms, f)
			end := map[int64]int64{1: 32767, -1: -32768}[sign]
			if slices.Max(l) != end && slices.Min(l) != end {
				t.Errorf("P14.3: %v: what is loud comes to %d, %d", w, slices.Min(l), slices.Max(l))
			}
			mustPlay(t, p, h, w.ms, w.plainFrame(0))
			mustPlay(t, p, h, w.ms, w.plainFrame(2))
		}
	}
}
