package speech_test

import (
	"slices"
	"testing"

	"madrigal/gain"
	"madrigal/lsf"
	"madrigal/speech"
)

func TestNew(t *testing.T) {
	for _, w := range forms {
		p := newPlayer(t, w.rate)
		if p.Gain() != 20 {
			t.Errorf("P14.3: Gain at first: %d", p.Gain())
		}
		mustSame(t, "two new ones", p, newPlayer(t, w.rate), true)
		mustSame(t, "a copy of a new one", p, p.Copy(), true)
		p.Reset()
		mustSame(t, "a new one behind Reset", p, newPlayer(t, w.rate), true)
		mustPlay(t, p, newHistory(w.rate), w.ms, w.voiced(2, 1))
		mustSame(t, "one that has played", p, newPlayer(t, w.rate), false)
		mustSame(t, "two new ones beside one that has played", newPlayer(t, w.rate), newPlayer(t, w.rate), true)
		mustPlay(t, newPlayer(t, w.rate), newHistory(w.rate), w.ms, w.voiced(2, 1))
	}
}

// Two of the two rates are never the same: new, behind Reset, behind what is as silent.
func TestSameOfRate(t *testing.T) {
	p, q := newPlayer(t, 8000), newPlayer(t, 16000)
	mustSame(t, "new ones of two rates", p, q, false)
	for turn := range 6 {
		w, v := form{8000, 10 + 10*(turn%2)}, form{16000, 10 + 10*(turn/2%2)}
		f, g := w.voiced(0, turn), v.voiced(0, turn)
		f.Gains[len(f.Gains)-1], g.Gains[len(g.Gains)-1] = 20, 20
		p.Play(w.ms, f)
		q.Play(v.ms, g)
		mustSame(t, "silent ones of two rates", p, q, false)
	}
	p.Reset()
	q.Reset()
	mustSame(t, "two rates behind Reset", p, q, false)
	mustSame(t, "copies of two rates", p.Copy(), q.Copy(), false)
}

// played is a new Player that has played these.
func played(t *testing.T, w form, frames ...speech.Frame) *speech.Player {
	t.Helper()
	p := newPlayer(t, w.rate)
	for _, f := range frames {
		if _, x := p.Play(w.ms, f); x != 0 {
			t.Fatalf("P14.3: Play(%+v): %d", f, x)
		}
	}
	return p
}

func TestGain(t *testing.T) {
	for _, w := range forms {
		p := newPlayer(t, w.rate)
		for turn := range 64 {
			f := w.voiced(turn%3, turn)
			f.Gains[len(f.Gains)-1] = turn
			f.Gains[0] = (turn + 30) % 64
			for range 2 {
				p.Play(w.ms, f)
				if p.Gain() != turn || p.Copy().Gain() != turn {
					t.Fatalf("P14.3: %v: Gain behind %d: %d", w, f.Gains, p.Gain())
				}
			}
			if turn%5 == 0 {
				p.Reset()
				if p.Gain() != 20 || p.Copy().Gain() != 20 {
					t.Fatalf("P14.3: %v: Gain behind Reset: %d", w, p.Gain())
				}
			}
			mustNotPlay(t, "a frame that is none", p, w.ms, speech.Frame{Gains: f.Gains})
		}
	}
}

// The gain alone: silent Players of the same frequencies. That it is not the last one does not matter.
func TestSameOfGain(t *testing.T) {
	for _, w := range forms {
		last := w.subframes() - 1
		for g := range 64 {
			f := w.voiced(0, 2)
			f.Gains[last] = g
			p := played(t, w, f)
			for other := range 64 {
				f.Gains[last] = other
				mustSame(t, "the gain alone", p, played(t, w, f), g == other)
			}
			f.Gains[last] = g
			for i := range last {
				f.Gains[i] = 63 - g
				mustSame(t, "a gain that is not the last", p, played(t, w, f), true)
			}
		}
	}
}

// The frequencies alone: silent Players of the same gain.
func TestSameOfFrequencies(t *testing.T) {
	same := 0
	for _, w := range forms {
		f := w.voiced(0, 2)
		own, _ := lsf.Decode(w.order(), f.Lsf)
		p := played(t, w, f)
		// Two that are told otherwise may come to the same frequencies.
		against := func(g speech.Frame) {
			t.Helper()
			l, _ := lsf.Decode(w.order(), g.Lsf)
			mustSame(t, "the frequencies alone", p, played(t, w, g), slices.Equal(l, own))
		}
		for one := range 16 {
			g := cloned(f)
			g.Lsf.One = one
			against(g)
		}
		for k := range w.order() {
			for v := -4; v <= 4; v++ {
				g := cloned(f)
				g.Lsf.Two[k] = v
				against(g)
			}
		}
		for between := range 5 {
			g := cloned(f)
			g.Between = between
			mustSame(t, "another Between", p, played(t, w, g), true)
		}
		same += sameOfTwoIndexes(t, w)
	}
	if same < 10 {
		t.Errorf("only %d pairs of indexes come to the same frequencies", same)
	}
}

// sameOfTwoIndexes goes through first frequencies that are kept away from 0, or from the next one, all the same.
func sameOfTwoIndexes(t *testing.T, w form) int {
	t.Helper()
	n := 0
	for one := range 16 {
		for k := range w.order() {
			f, g := w.plainFrame(0), w.plainFrame(0)
			f.Lsf.One, g.Lsf.One = one, one
			for i := range k {
				f.Lsf.Two[i], g.Lsf.Two[i] = 4, 4
			}
			f.Lsf.Two[k], g.Lsf.Two[k] = -4, -3
			a, _ := lsf.Decode(w.order(), f.Lsf)
			b, _ := lsf.Decode(w.order(), g.Lsf)
			mustSame(t, "two indexes", played(t, w, f), played(t, w, g), slices.Equal(a, b))
			if slices.Equal(a, b) {
				n++
			}
		}
	}
	return n
}

// The voice alone: one has played noise, the other one silence, with the same frequencies and gains.
func TestSameOfVoice(t *testing.T) {
	for _, w := range forms {
		for kind := 1; kind <= 2; kind++ {
			f := w.voiced(kind, 3)
			quiet := cloned(f)
			quiet.Kind, quiet.Ltps, quiet.Pulses = 0, nil, nil
			p, q := played(t, w, f), played(t, w, quiet)
			if p.Gain() != q.Gain() {
				t.Fatalf("P14.3: Gain behind two that have the same: %d, %d", p.Gain(), q.Gain())
			}
			mustSame(t, "the voice alone", p, q, false)
			other := cloned(f)
			other.Pulses[w.samples()-1]++
			if other.Pulses[w.samples()-1] == 0 {
				other.Pulses[w.samples()-1] = 2
			}
			if speech.Good(w.rate, w.ms, other) {
				mustSame(t, "one pulse of the voice", p, played(t, w, other), false)
			}
			mustSame(t, "two that have played the same", p, played(t, w, f), true)
		}
	}
}

// Of a voice what drove the filter alone: a pulse, when nothing of it rings any more. It is kept for 320 samples: a lag that reaches there tells the two apart.
func TestSameOfWhatDrove(t *testing.T) {
	for _, w := range forms {
		for _, at := range []int{0, w.samples() - 1} {
			f := w.plainFrame(1)
			clear(f.Pulses)
			quiet := cloned(f)
			f.Pulses[at] = 1
			p, q := played(t, w, f), played(t, w, quiet)
			for n := 1; n < 8; n++ {
				// The pulse stands so many samples behind the next one.
				behind := n*w.samples() - at
				mustSame(t, "what drove the filter", p, q, behind > 320)
				if least, most := w.lags(); behind <= most {
					lag := max(behind, least)
					again := w.plainFrame(2)
					clear(again.Pulses)
					again.Ltps = slices.Repeat([]gain.Ltp{{Lag: lag, Taps: 6}}, w.subframes())
					if heard := firstChange(t, p, w.ms, again, quiet); heard != lag-behind {
						t.Errorf("P14.3: %v: a pulse %d samples behind is heard at %d with Lag %d", w, behind, heard, lag)
					}
				}
				p.Play(w.ms, w.plainFrame(0))
				q.Play(w.ms, w.plainFrame(0))
			}
		}
	}
}

// Of a voice what came out alone: the same pulses rang by other filters in the first half.
func TestSameOfWhatCameOut(t *testing.T) {
	for _, w := range forms {
		sharp := w.plainFrame(0)
		for k := range sharp.Lsf.Two {
			sharp.Lsf.Two[k] = 4 - 8*(k%2)
		}
		f := cloned(sharp)
		f.Kind, f.Pulses = 1, make([]int64, w.samples())
		f.Gains = slices.Repeat([]int{63}, w.subframes())
		f.Pulses[0], f.Pulses[w.samples()/2-9] = 16, 16
		var p []*speech.Player
		for between := range 5 {
			f.Between = between
			p = append(p, played(t, w, f))
		}
		for i := range p {
			for k := range p {
				mustSame(t, "what came out", p[i], p[k], i == k)
				if at := firstChangeOf(p[i], p[k], w.ms, sharp); i != k && at > w.subframe() {
					t.Errorf("P14.3: %v: what came out is heard at %d", w, at)
				}
			}
		}
	}
}

// firstChangeOf is the first sample at which copies of two Players play one frame unlike.
func firstChangeOf(p, q *speech.Player, ms int, f speech.Frame) int {
	a, _ := p.Copy().Play(ms, f)
	b, _ := q.Copy().Play(ms, f)
	for k := range a {
		if a[k] != b[k] {
			return k
		}
	}
	return len(a)
}

// A copy goes its own way, in either direction; Reset makes it new, and not the first one.
func TestCopyAndReset(t *testing.T) {
	for _, w := range forms {
		for turn := range 12 {
			kind := turn % 3
			p, h := newPlayer(t, w.rate), newHistory(w.rate)
			mustPlay(t, p, h, w.ms, w.voiced(2, turn+1))
			mustPlay(t, p, h, w.ms, w.voiced(kind, turn+2))
			q, g := p.Copy(), h.copied()
			mustSame(t, "a copy", p, q, true)

			next := w.voiced(1, turn+6)
			next.Fresh = false
			mustPlay(t, p, h, w.ms, next)
			mustSame(t, "a copy, when the first one played", p, q, false)
			mustPlay(t, q, g, w.ms, next)
			mustSame(t, "a copy that played, too", p, q, true)
			mustPlay(t, q, g, 30-w.ms, form{w.rate, 30 - w.ms}.voiced(2, turn))
			mustSame(t, "a copy, when it played by itself", p, q, false)
			mustPlay(t, p, h, 30-w.ms, form{w.rate, 30 - w.ms}.voiced(2, turn))
			mustSame(t, "both, once more", p, q, true)

			u := q.Copy()
			q.Reset()
			g.reset()
			mustSame(t, "a copy behind Reset", q, newPlayer(t, w.rate), true)
			mustSame(t, "the first one, when its copy was made new", p, u, true)
			mustSame(t, "the first one and its new copy", p, q, false)
			mustPlay(t, q, g, w.ms, next)
			mustPlay(t, p, h, w.ms, next)
			u.Reset()
			mustPlay(t, u, newHistory(w.rate), w.ms, next)
			mustSame(t, "two that were made new", u, q, true)
		}
	}
}

// Behind Reset all is as at first: the voice, the frequencies ahead, the gain, each by itself.
func TestReset(t *testing.T) {
	for _, w := range forms {
		loud := w.voiced(1, 2)
		quiet := w.plainFrame(0)
		quiet.Gains[w.subframes()-1] = 20
		other := w.plainFrame(0)
		for _, ahead := range [][]speech.Frame{{loud}, {quiet}, {other}, {loud, quiet}, {loud, other, loud}} {
			p := played(t, w, ahead...)
			mustSame(t, "ahead of Reset", p, newPlayer(t, w.rate), false)
			for range 2 {
				p.Reset()
				mustSame(t, "behind Reset", p, newPlayer(t, w.rate), true)
				if p.Gain() != 20 {
					t.Errorf("P14.3: Gain behind Reset: %d", p.Gain())
				}
			}
			h := newHistory(w.rate)
			for between := range 5 {
				f := w.ringing(between+4, between)
				mustPlay(t, p, h, w.ms, f)
				p.Reset()
				h.reset()
			}
			mustPlay(t, p, h, w.ms, w.voiced(2, 5))
		}
	}
}

// storiesOf are Players of a rate that have played all sorts of things.
func storiesOf(t *testing.T, rate int) []*speech.Player {
	t.Helper()
	a, b := form{rate, 10}, form{rate, 20}
	l := []*speech.Player{
		newPlayer(t, rate), played(t, a, a.lively()...), played(t, b, b.lively()...),
		played(t, b, b.plainFrame(0)), played(t, a, a.voiced(2, 1), a.voiced(0, 2)), played(t, b, b.ringing(3, 1), b.voiced(2, 9)),
	}
	l = append(l, l[1].Copy(), l[5].Copy())
	l[6].Play(20, b.voiced(1, 5))
	l[7].Reset()
	return l
}

// Whatever was played ahead of it, a Fresh frame sounds as by a new Player, and all are the same then and go on the same.
func TestFresh(t *testing.T) {
	for _, w := range forms {
		for kind := range 3 {
			for turn := range 10 {
				f := w.voiced(kind, turn)
				f.Fresh, f.Between = true, turn%5
				first, h := newPlayer(t, w.rate), newHistory(w.rate)
				want := mustPlay(t, first, h, w.ms, f)
				all := storiesOf(t, w.rate)
				for n, p := range all {
					if l, _ := p.Play(w.ms, f); !slices.Equal(l, want) {
						t.Fatalf("P14.4: %v: a Fresh frame by Player %d: %d, want %d", w, n, l, want)
					}
					mustSame(t, "two behind a Fresh frame", p, first, true)
				}
				goOn(t, append(all, first), h, turn)
			}
		}
	}
}

// goOn plays frames that are not Fresh by Players that are the same.
func goOn(t *testing.T, all []*speech.Player, h *history, turn int) {
	t.Helper()
	for n := range 4 {
		w := form{h.rate, 10 + 10*((turn+n)%2)}
		f := w.voiced((turn+n*n)%3, turn*4+n)
		f.Fresh = false
		want := h.play(w.ms, f)
		for _, p := range all {
			if l, _ := p.Play(w.ms, f); !slices.Equal(l, want) || p.Gain() != h.gain() {
				t.Fatalf("P14.4: %d frames behind a Fresh one: %d, want %d", n, l, want)
			}
			mustSame(t, "two that go on", p, all[0], true)
		}
	}
}

// A frame that is not Fresh forgets nothing of the voice; and what is refused forgets nothing, be it Fresh.
func TestNotFresh(t *testing.T) {
	for _, w := range forms {
		for _, kind := range []int{0, 1, 2} {
			f := w.plainFrame(kind)
			p, q := newPlayer(t, w.rate), played(t, w, w.lively()...)
			if firstChangeOf(p, q, w.ms, f) == w.samples() {
				t.Errorf("P14.3: %v: a frame of Kind %d that is not Fresh forgets all", w, kind)
			}
			f.Fresh = true
			f.Gains[1] = 64
			mustNotPlay(t, "a Fresh frame", q, w.ms, f)
			f.Gains[1], f.Between = 6, 5
			mustNotPlay(t, "a Fresh frame", q, w.ms, f)
			f.Between = 1
			f.Fresh = false
			if firstChangeOf(p, q, w.ms, f) == w.samples() {
				t.Errorf("P14.3: %v: a Fresh frame that was refused forgets all", w)
			}
		}
	}
}

// Fresh does just what Reset ahead of it does.
func TestFreshAndReset(t *testing.T) {
	for _, w := range forms {
		for turn := range 20 {
			p, q := played(t, w, w.lively()...), played(t, w, w.lively()...)
			f := w.voiced(turn%3, turn)
			f.Fresh = true
			a, _ := p.Play(w.ms, f)
			f.Fresh = false
			q.Reset()
			b, _ := q.Play(w.ms, f)
			if !slices.Equal(a, b) {
				t.Fatalf("P14.3: %v: a Fresh frame: %d, behind Reset %d", w, a, b)
			}
			mustSame(t, "Fresh and Reset", p, q, true)
		}
	}
}

// Players that play in turn don't meet.
func TestPlayersDoNotMeet(t *testing.T) {
	var all []*speech.Player
	var h []*history
	for n := range 6 {
		rate := 8000 + 8000*(n%2)
		all, h = append(all, newPlayer(t, rate)), append(h, newHistory(rate))
	}
	for turn := range 60 {
		n := turn * turn % 6
		w := form{h[n].rate, 10 + 10*(turn/3%2)}
		mustPlay(t, all[n], h[n], w.ms, w.voiced(turn%3, turn*3+n))
		if turn%7 == 0 {
			all[5-n].Reset()
			h[5-n].reset()
		}
		for i := range all {
			for k := range all {
				mustSame(t, "Players in turn", all[i], all[k], h[i].same(h[k]))
			}
		}
	}
}
