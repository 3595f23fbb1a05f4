package speech_test

import (
	"bytes"
	"slices"
	"testing"

	"madrigal/api"
	"madrigal/gain"
	"madrigal/rc"
	"madrigal/renc"
	"madrigal/speech"
)

// spare is how much room is behind each guarded list, and filler what stands there.
const spare, filler = 500, 31

func guard[T any](l []T, v T) []T {
	return append(slices.Clip(slices.Clone(l)), slices.Repeat([]T{v}, spare)...)[:len(l)]
}

func untouched[T comparable](l, was []T, v T) bool {
	return slices.Equal(l, was) && slices.Equal(l[len(l):cap(l)][:spare], slices.Repeat([]T{v}, spare))
}

var strangeLtp = gain.Ltp{Lag: filler, Taps: filler}

// guarded is a frame whose lists have spare room behind them, which nobody may write to.
func guarded(f speech.Frame) speech.Frame {
	f.Lsf.Two, f.Gains, f.Ltps, f.Pulses = guard(f.Lsf.Two, filler), guard(f.Gains, filler), guard(f.Ltps, strangeLtp), guard(f.Pulses, filler)
	return f
}

func isUntouched(f, was speech.Frame) bool {
	return equal(f, was) && untouched(f.Lsf.Two, was.Lsf.Two, filler) && untouched(f.Gains, was.Gains, filler) &&
		untouched(f.Ltps, was.Ltps, strangeLtp) && untouched(f.Pulses, was.Pulses, filler)
}

// fill writes over a list and all its spare room.
func fill[T any](l []T, v T) {
	l = l[:cap(l)]
	for i := range l {
		l[i] = v
	}
}

// fillFrame writes over all lists of a frame.
func fillFrame(f speech.Frame) {
	fill(f.Lsf.Two, 991)
	fill(f.Gains, 992)
	fill(f.Ltps, gain.Ltp{Lag: 993, Taps: 994})
	fill(f.Pulses, 995)
}

// onlyThese tells whether a list and its spare room have that value alone.
func onlyThese[T comparable](l []T, v T) bool {
	return !slices.ContainsFunc(l[:cap(l)], func(x T) bool { return x != v })
}

// isFilled tells whether each list of a frame still has what fillFrame wrote to it: none shares memory with another one.
func isFilled(f speech.Frame) bool {
	return onlyThese(f.Lsf.Two, 991) && onlyThese(f.Gains, 992) && onlyThese(f.Ltps, gain.Ltp{Lag: 993, Taps: 994}) && onlyThese(f.Pulses, 995)
}

// What is handed in stays, spare room too, whether it is taken or refused.
func TestListsStay(t *testing.T) {
	allEdges(func(w form, c edge) {
		f := guarded(c.f)
		speech.Good(c.rate, c.ms, f)
		e := renc.New()
		for range 2 {
			speech.Write(e, c.rate, c.ms, 50, f)
		}
		p := newPlayer(t, w.rate)
		if !c.good {
			p.Play(c.ms, f)
		} else if w.ms == 10 {
			p.Play(c.ms, f)
			p.Play(c.ms, f)
			p.Copy().Reset()
		}
		if !isUntouched(f, c.f) {
			t.Fatalf("R4: %v: %s: a list that was handed in is changed", w, c.what)
		}
	})
	for _, w := range forms {
		for kind := range 3 {
			p := newPlayer(t, w.rate)
			for turn := range 8 {
				was := w.voiced(kind, turn)
				f := guarded(was)
				p.Play(w.ms, f)
				p.Play(w.ms, f)
				if !isUntouched(f, was) {
					t.Fatalf("R4: %v: a list that was played is changed", w)
				}
			}
		}
	}
}

// A frame's lists of one kind may be one piece of memory: what stands behind Two is Gains.
func TestListsInOnePiece(t *testing.T) {
	for _, w := range forms {
		for kind := range 3 {
			f := w.voiced(kind, 6)
			piece := slices.Concat(f.Lsf.Two, f.Gains, []int{5, 6, 7})
			was, g := slices.Clone(piece), cloned(f)
			n := len(f.Lsf.Two)
			f.Lsf.Two, f.Gains = piece[:n], piece[n:n+len(f.Gains)]
			mustWrite(t, w, 30, f)
			mustPlay(t, newPlayer(t, w.rate), newHistory(w.rate), w.ms, f)
			if !slices.Equal(piece, was) || !equal(f, g) {
				t.Errorf("R4: %v: a list that was handed in is changed", w)
			}
		}
	}
}

// A list that is changed behind Write alters neither what was written nor what was told.
func TestWrittenListsAreNotKept(t *testing.T) {
	for _, w := range forms {
		for kind := range 3 {
			e, plain := renc.New(), renc.New()
			var told, want []speech.Frame
			for turn := range 5 {
				f := guarded(w.voiced(kind, turn))
				g, _ := speech.Write(e, w.rate, w.ms, 30, f)
				fillFrame(f)
				told = append(told, g)
				g, _ = speech.Write(plain, w.rate, w.ms, 30, w.voiced(kind, turn))
				want = append(want, cloned(g))
			}
			for n := range told {
				if !equal(told[n], want[n]) {
					t.Fatalf("R4: %v: what was told has changed: %+v, want %+v", w, told[n], want[n])
				}
			}
			b, x := e.Done(api.MaxFrame)
			c, y := plain.Done(api.MaxFrame)
			if x != api.OK || y != api.OK || !bytes.Equal(b, c) {
				t.Fatalf("R4: %v: what was written has changed", w)
			}
		}
	}
}

// A list that is changed behind Play alters nothing later.
func TestPlayedListsAreNotKept(t *testing.T) {
	for _, w := range forms {
		p, h := newPlayer(t, w.rate), newHistory(w.rate)
		for turn := range 20 {
			f := guarded(w.voiced(turn%3, turn))
			mustPlay(t, p, h, w.ms, f)
			c := p.Copy()
			fillFrame(f)
			mustSame(t, "a list that was played is written over", p, c, true)
			if p.Gain() != h.gain() {
				t.Fatalf("R4: Gain, when a list that was played is written over: %d, want %d", p.Gain(), h.gain())
			}
		}
	}
}

// One frame may be played again and again, with other numbers in the same lists.
func TestOneFrameOften(t *testing.T) {
	for _, w := range forms {
		p, h := newPlayer(t, w.rate), newHistory(w.rate)
		f := w.voiced(2, 0)
		for turn := range 12 {
			g := w.voiced(2, turn)
			copy(f.Lsf.Two, g.Lsf.Two)
			copy(f.Gains, g.Gains)
			copy(f.Ltps, g.Ltps)
			copy(f.Pulses, g.Pulses)
			mustPlay(t, p, h, w.ms, f)
		}
	}
}

// areNew writes over frames that a call answered, spare room too: each stays as it is behind the others, and no two of their lists share memory.
func areNew(t *testing.T, what string, call func() speech.Frame) {
	t.Helper()
	first, second := call(), call()
	was := cloned(first)
	fillFrame(first)
	if !isFilled(first) {
		t.Fatalf("R4: %s: two lists of one answer share memory", what)
	}
	if !equal(second, was) {
		t.Fatalf("R4: %s: an answer shares memory with the one ahead", what)
	}
	third := call()
	if !equal(third, was) || !equal(second, was) {
		t.Fatalf("R4: %s: an answer shares memory with what is kept", what)
	}
	fillFrame(second)
	fillFrame(third)
	// Another value, so that it would show in the first one's spare room.
	fill(second.Gains, -1)
	fill(third.Lsf.Two, -2)
	if !isFilled(first) || !equal(call(), was) {
		t.Fatalf("R4: %s: an answer shares memory with one behind", what)
	}
}

func TestAnswersOfReadAreNew(t *testing.T) {
	for _, w := range forms {
		for kind := range 3 {
			for turn := range 6 {
				l := newWriting()
				l.put(t, w, 30, w.voiced(kind, turn))
				b, _ := l.e.Done(l.least())
				areNew(t, "Read", func() speech.Frame {
					f, _ := speech.Read(rc.New(b), w.rate, w.ms, 30)
					return f
				})
			}
		}
	}
}

// What Write answers shares nothing with what was handed in, either.
func TestAnswersOfWriteAreNew(t *testing.T) {
	for _, w := range forms {
		for kind := range 3 {
			for turn := range 6 {
				was := w.voiced(kind, turn)
				given := guarded(was)
				e := renc.New()
				areNew(t, "Write", func() speech.Frame {
					f, _ := speech.Write(e, w.rate, w.ms, 30, given)
					return f
				})
				if !isUntouched(given, was) {
					t.Fatalf("R4: an answer of Write shares memory with what was handed in")
				}
			}
		}
	}
}

// What Play answered stays as it is; and when it is written over, spare room too, nothing else changes.
func TestAnswersOfPlayAreNew(t *testing.T) {
	for _, w := range forms {
		p, h := newPlayer(t, w.rate), newHistory(w.rate)
		var answers, wants [][]int64
		for turn := range 14 {
			f := w.voiced(turn%3, turn)
			l, _ := p.Play(w.ms, f)
			answers, wants = append(answers, l), append(wants, h.play(w.ms, f))
		}
		p.Copy().Play(w.ms, w.voiced(2, 3))
		p.Copy().Reset()
		for n, l := range answers {
			if !slices.Equal(l, wants[n]) {
				t.Fatalf("R4: what Play answered first of all has changed")
			}
			fill(l, int64(n))
		}
		for n, l := range answers {
			if !onlyThese(l, int64(n)) {
				t.Fatalf("R4: two answers share memory")
			}
		}
		for turn := range 5 {
			l := mustPlay(t, p, h, w.ms, w.voiced(turn%3, turn+1))
			c := p.Copy()
			fill(l, 1<<14)
			mustSame(t, "an answer is written over", p, c, true)
		}
	}
}
