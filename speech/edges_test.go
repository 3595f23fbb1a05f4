package speech_test

import (
	"bytes"
	"fmt"
	"math"
	"slices"
	"testing"

	"madrigal/api"
	"madrigal/gain"
	"madrigal/lsf"
	"madrigal/rc"
	"madrigal/renc"
	"madrigal/speech"
)

// edge is a frame at an edge of what may be.
type edge struct {
	what     string
	rate, ms int
	f        speech.Frame
	good     bool
}

// noRates are rates that no voice has.
var noRates = []int{
	24000, 0, -1, 1, 10, 16, 200, -8000, -16000, 4000, 7999, 8001, 12000, 15999, 16001, 32000, 48000,
	1<<32 + 8000, 1<<32 + 16000, 1<<31 - 1, math.MinInt, math.MinInt + 8000, math.MaxInt,
}

// noLengths are lengths that no frame has.
var noLengths = []int{
	0, 5, 15, 25, 30, 40, 60, 120, -5, -10, -20, -1, 1, 2, 4, 9, 11, 19, 21,
	1<<32 + 10, 1<<32 + 20, math.MinInt, math.MinInt + 10, math.MaxInt,
}

// edges changes a good frame at every edge, one thing at a time and several.
type edges struct {
	form
	base speech.Frame
	all  []edge
}

func (l *edges) add(good bool, change func(f *speech.Frame), what ...any) {
	f := cloned(l.base)
	change(&f)
	l.all = append(l.all, edge{fmt.Sprint("kind ", l.base.Kind, ", ", what), l.rate, l.ms, f, good})
}

// places are the first, one in the middle and the last of n.
func places(n int) []int { return slices.Compact([]int{0, n / 2, n - 1}) }

// numbers are those about both bounds, and the far ones.
func numbers(least, most int, each func(v int, good bool)) {
	for _, v := range append([]int{least - 1, least, least + 1, most - 1, most, most + 1}, far...) {
		each(v, v >= least && v <= most)
	}
}

func (l *edges) plain() {
	l.add(true, func(f *speech.Frame) {}, "as it is")
	l.add(true, func(f *speech.Frame) { f.Fresh = !f.Fresh }, "Fresh or not")
	numbers(0, 4, func(v int, good bool) {
		l.add(good, func(f *speech.Frame) { f.Between = v }, "Between", v)
	})
	for _, v := range append([]int{-1, 0, 1, 2, 3}, far...) {
		l.add(v == l.base.Kind, func(f *speech.Frame) { f.Kind = v }, "Kind", v)
	}
}

func (l *edges) index() {
	numbers(0, 15, func(v int, good bool) {
		l.add(good, func(f *speech.Frame) { f.Lsf.One = v }, "One", v)
	})
	for k := range l.order() {
		numbers(-4, 4, func(v int, good bool) {
			l.add(good, func(f *speech.Frame) { f.Lsf.Two[k] = v }, "number", k, "of Two", v)
		})
	}
	for _, n := range []int{0, 1, 9, 10, 11, 12, 15, 16, 17, 32, 1 << 12} {
		l.add(n == l.order(), func(f *speech.Frame) { f.Lsf.Two = make([]int, n) }, "Two of", n)
	}
	l.add(false, func(f *speech.Frame) { f.Lsf.Two = nil }, "Two of none")
}

func (l *edges) gains() {
	for i := range l.subframes() {
		numbers(0, 63, func(v int, good bool) {
			l.add(good, func(f *speech.Frame) { f.Gains[i] = v }, "gain", i, "is", v)
		})
	}
	for _, n := range []int{0, 1, 2, 3, 4, 5, 6, 8, 1 << 12} {
		l.add(n == l.subframes(), func(f *speech.Frame) { f.Gains = make([]int, n) }, "gains:", n)
	}
	l.add(false, func(f *speech.Frame) { f.Gains = nil }, "no gains")
	l.add(false, func(f *speech.Frame) { f.Gains = f.Gains[1:] }, "one gain too few")
	l.add(false, func(f *speech.Frame) { f.Gains = append(f.Gains, 20) }, "one gain too many")
}

func (l *edges) ltps() {
	least, most := l.lags()
	for _, n := range []int{0, 1, 2, 3, 4, 5, 8, 1 << 12} {
		good := n == 0 && l.base.Kind != 2 || n == l.subframes() && l.base.Kind == 2
		l.add(good, func(f *speech.Frame) { f.Ltps = slices.Repeat([]gain.Ltp{{Lag: 40, Taps: 3}}, n) }, "Ltps:", n)
	}
	l.add(l.base.Kind != 2, func(f *speech.Frame) { f.Ltps = []gain.Ltp{} }, "Ltps of no length")
	l.add(false, func(f *speech.Frame) { f.Ltps = append(f.Ltps, gain.Ltp{Lag: least}) }, "one Ltp more")
	l.add(false, func(f *speech.Frame) { f.Ltps = append(f.Ltps, gain.Ltp{}) }, "one Ltp more, of noughts")
	for i := range l.base.Ltps {
		numbers(least, most, func(v int, good bool) {
			l.add(good, func(f *speech.Frame) { f.Ltps[i].Lag = v }, "Lag", i, "is", v)
		})
		l.add(false, func(f *speech.Frame) { f.Ltps[i].Lag = 0 }, "Lag", i, "is 0")
		numbers(0, 7, func(v int, good bool) {
			l.add(good, func(f *speech.Frame) { f.Ltps[i].Taps = v }, "Taps", i, "are", v)
		})
	}
}

func (l *edges) pulses() {
	n := l.samples()
	for _, m := range []int{0, 1, 15, 16, n - 32, n - 16, n - 1, n, n + 1, n + 16, 80, 160, 320, 480, 496, 1 << 16} {
		good := m == 0 && l.base.Kind == 0 || m == n && l.base.Kind > 0
		l.add(good, func(f *speech.Frame) { f.Pulses = make([]int64, m) }, "pulses:", m)
	}
	l.add(l.base.Kind == 0, func(f *speech.Frame) { f.Pulses = nil }, "no pulses")
	l.add(l.base.Kind == 0, func(f *speech.Frame) { f.Pulses = []int64{} }, "pulses of no length")
	if l.base.Kind == 0 {
		return
	}
	for _, k := range append(places(n), 15, 16, n-16, n-17) {
		for _, v := range append([]int{-17, -16, 16, 17}, far...) {
			l.add(v == 16 || v == -16, func(f *speech.Frame) {
				clear(f.Pulses)
				f.Pulses[k] = int64(v)
			}, "pulse", k, "is", v)
		}
	}
	for k := 0; k < n; k += 16 {
		l.add(true, func(f *speech.Frame) { copy(f.Pulses[k:], slices.Repeat([]int64{1, -1}, 8)) }, "sixteen pulses from", k, "on")
		l.add(false, func(f *speech.Frame) { copy(f.Pulses[k:], append(slices.Repeat([]int64{1, -1}, 7), 1, -2)) }, "seventeen pulses from", k, "on")
		l.add(false, func(f *speech.Frame) { copy(f.Pulses[k:], append(make([]int64, 14), math.MinInt64, math.MinInt64)) }, "the least numbers from", k, "on")
	}
}

func (l *edges) several() {
	least, most := l.lags()
	l.add(false, func(f *speech.Frame) { *f = speech.Frame{Kind: f.Kind} }, "a Kind alone")
	l.add(false, func(f *speech.Frame) { f.Kind, f.Between = 3, 5 }, "Kind and Between")
	l.add(false, func(f *speech.Frame) { f.Kind, f.Ltps, f.Pulses = -1, nil, nil }, "Kind -1 of no lists")
	l.add(false, func(f *speech.Frame) { f.Kind, f.Ltps = 3, nil }, "Kind 3 without Ltps")
	l.add(false, func(f *speech.Frame) { f.Lsf, f.Gains = lsf.Index{One: 16}, nil }, "an Index and no gains")
	l.add(false, func(f *speech.Frame) { f.Gains[0], f.Gains[1] = -1, 64 }, "two gains")
	l.add(false, func(f *speech.Frame) { f.Gains, f.Pulses = append(f.Gains, 64), make([]int64, 15) }, "gains and pulses")
	l.add(false, func(f *speech.Frame) {
		*f = speech.Frame{Fresh: true, Kind: math.MinInt, Lsf: lsf.Index{One: -1, Two: make([]int, 3)}, Between: 5, Gains: make([]int, 9), Ltps: make([]gain.Ltp, 7), Pulses: make([]int64, 17)}
	}, "all wrong")
	// A frame of another Kind is that, with just what it asks for.
	l.add(true, func(f *speech.Frame) { f.Kind, f.Ltps, f.Pulses = 0, nil, nil }, "silent")
	l.add(true, func(f *speech.Frame) { f.Kind, f.Ltps, f.Pulses = 1, nil, make([]int64, l.samples()) }, "noisy")
	l.add(true, func(f *speech.Frame) {
		*f = speech.Frame{
			Kind: 2, Lsf: lsf.Index{One: 15, Two: slices.Repeat([]int{-4}, l.order())}, Between: 4, Gains: slices.Repeat([]int{63}, l.subframes()),
			Ltps: slices.Repeat([]gain.Ltp{{Lag: most, Taps: 7}, {Lag: least}}, l.subframes()/2), Pulses: slices.Repeat([]int64{-1}, l.samples()),
		}
	}, "all at the edge")
}

// otherForms are frames that would be good, if there were such a rate or such a length, and good ones of another rate or length.
func (l *edges) otherForms() {
	for _, ms := range noLengths {
		f := cloned(l.base)
		if n := ms / 5; n < 1<<10 {
			f.Gains = slices.Repeat([]int{30}, max(n, 0))
			f.Ltps = slices.Repeat([]gain.Ltp{{Lag: 40}}, max(n, 0))
			f.Pulses = make([]int64, max(l.rate*ms/1000, 0))
		}
		if f.Kind != 2 {
			f.Ltps = nil
		}
		if f.Kind == 0 {
			f.Pulses = nil
		}
		l.all = append(l.all,
			edge{fmt.Sprint("kind ", f.Kind, ", so many ms: ", ms), l.rate, ms, f, false},
			edge{fmt.Sprint("kind ", f.Kind, ", as of ", l.ms, ", so many ms: ", ms), l.rate, ms, l.base, false})
	}
	for _, rate := range noRates {
		f := cloned(l.base)
		if f.Kind > 0 && rate == 24000 {
			f.Pulses = make([]int64, 24*l.ms)
		}
		l.all = append(l.all,
			edge{fmt.Sprint("kind ", f.Kind, ", so many samples a second: ", rate), rate, l.ms, f, false},
			edge{fmt.Sprint("kind ", f.Kind, ", of samples of ", l.rate, ": ", rate), rate, l.ms, l.base, false})
	}
	for _, w := range forms {
		if w != l.form {
			l.all = append(l.all, edge{fmt.Sprint("kind ", l.base.Kind, ", a frame of ", l.form, ", at ", w), w.rate, w.ms, l.base, false})
		}
	}
	l.all = append(l.all, edge{"rate and ms the wrong way round", l.ms, l.rate, l.base, false}, edge{"no rate and no ms", 24000, 15, l.base, false})
}

func edgesOf(w form, kind, turn int) []edge {
	l := &edges{form: w, base: w.voiced(kind, turn)}
	l.plain()
	l.index()
	l.gains()
	l.ltps()
	l.pulses()
	l.several()
	l.otherForms()
	return l.all
}

// allEdges are those of each form and Kind, of frames that are Fresh and not.
func allEdges(each func(w form, c edge)) {
	for n, w := range forms {
		for kind := range 3 {
			for _, c := range edgesOf(w, kind, 2+(n+kind)%2) {
				each(w, c)
			}
		}
	}
}

func TestGoodAtEdges(t *testing.T) {
	seen := [2]int{}
	allEdges(func(w form, c edge) {
		if good := speech.Good(c.rate, c.ms, c.f); good != c.good || goodApart(c.rate, c.ms, c.f) != c.good {
			t.Fatalf("P14.1: %v: %s: Good %t, want %t", w, c.what, good, c.good)
		}
		seen[map[bool]int{true: 1}[c.good]]++
	})
	if seen[0] < 3000 || seen[1] < 1000 {
		t.Errorf("of both kinds %d", seen)
	}
}

// What is good is written, and comes back; what is not writes nothing: what is written ahead and behind is read as if it had not been asked for.
func TestWriteAtEdges(t *testing.T) {
	allEdges(func(w form, c edge) {
		if c.good {
			mustWrite(t, w, 33, c.f)
			return
		}
		next := w.voiced(1, 5)
		for _, begun := range []bool{false, true} {
			e, plain := renc.New(), renc.New()
			if begun {
				speech.Write(e, w.rate, w.ms, 20, next)
				speech.Write(plain, w.rate, w.ms, 20, next)
			}
			mustNotWrite(t, e, c)
			speech.Write(e, w.rate, w.ms, 20, next)
			speech.Write(plain, w.rate, w.ms, 20, next)
			mustNotWrite(t, e, c)
			e.Bits(5, 3)
			plain.Bits(5, 3)
			b, x := e.Done(api.MaxFrame)
			d, y := plain.Done(api.MaxFrame)
			if x != api.OK || y != api.OK || !bytes.Equal(b, d) {
				t.Fatalf("P14.2: %v: %s: behind what is refused %x is written, want %x", w, c.what, b, d)
			}
		}
	})
}

func mustNotWrite(t *testing.T, e *renc.Enc, c edge) {
	t.Helper()
	tell := e.Tell()
	if f, x := speech.Write(e, c.rate, c.ms, 33, c.f); x != api.EARG || !isZero(f) {
		t.Fatalf("P14.2: %d, %d ms: %s: Write: %+v, %d, want EARG", c.rate, c.ms, c.what, f, x)
	}
	if e.Tell() != tell {
		t.Fatalf("P14.2: %d, %d ms: %s: a refused Write: Tell() %d, was %d", c.rate, c.ms, c.what, e.Tell(), tell)
	}
}

// Each edge, by a Player that is new and by one that has played; what follows is as if what was refused had not been asked for.
func TestPlayAtEdges(t *testing.T) {
	for n, w := range forms {
		for kind := range 3 {
			p, h := newPlayer(t, w.rate), newHistory(w.rate)
			mustPlay(t, p, h, w.ms, w.voiced(2, 4))
			mustPlay(t, p, h, w.ms, w.voiced(1, 5))
			for i, c := range edgesOf(w, kind, 2+(n+kind)%2) {
				if c.rate != w.rate {
					continue
				}
				q, g := newPlayer(t, w.rate), newHistory(w.rate)
				if c.good {
					mustPlay(t, p.Copy(), h.copied(), c.ms, c.f)
					mustPlay(t, q, g, c.ms, c.f)
					continue
				}
				mustNotPlay(t, c.what, q, c.ms, c.f)
				mustSame(t, "a new one that refused", q, newPlayer(t, w.rate), true)
				mustNotPlay(t, c.what, p, c.ms, c.f)
				if i%16 == 0 {
					mustPlay(t, q, g, w.ms, w.voiced(2, i))
					mustPlay(t, p, h, w.ms, w.voiced(i%3, i))
				}
			}
			mustPlay(t, p, h, w.ms, w.voiced(2, 6))
		}
	}
}

// A frame of a rate is none of a Player of the other one, even if its pulses are as many.
func TestPlayOfTheOtherRate(t *testing.T) {
	for _, w := range forms {
		other := form{24000 - w.rate, w.ms}
		for kind := range 3 {
			p, h := newPlayer(t, w.rate), newHistory(w.rate)
			for turn := range 4 {
				mustNotPlay(t, "a frame of the other rate", p, other.ms, other.voiced(kind, turn))
				mustNotPlay(t, "a frame of the other rate and length", p, 30-other.ms, form{other.rate, 30 - other.ms}.voiced(kind, turn))
				mustNotPlay(t, "a frame of the other length", p, 30-w.ms, w.voiced(kind, turn))
				mustPlay(t, p, h, w.ms, w.voiced(kind, turn))
			}
		}
	}
}

func TestReadOfNoForm(t *testing.T) {
	for _, b := range [][]byte{nil, {}, {0}, {255}, {1, 2, 3}, bytes.Repeat([]byte{0x5a, 0xc3}, 100)} {
		d, apart := rc.New(b), rc.New(b)
		for turn, w := range slices.Concat(forms, forms) {
			for _, ms := range noLengths {
				mustNotRead(t, d, w.rate, ms)
			}
			for _, rate := range noRates {
				mustNotRead(t, d, rate, w.ms)
				mustNotRead(t, d, rate, noLengths[turn])
			}
			mustNotRead(t, d, w.ms, w.rate)
			mustRead(t, w, d, apart, turn*10)
		}
	}
}

func mustNotRead(t *testing.T, d *rc.Dec, rate, ms int) {
	t.Helper()
	tell, bad := d.Tell(), d.Bad()
	for _, was := range []int{0, 20, -1, 64, math.MinInt} {
		if f, x := speech.Read(d, rate, ms, was); x != api.EARG || !isZero(f) {
			t.Fatalf("P14.1: Read at %d, %d ms: %+v, %d, want EARG", rate, ms, f, x)
		}
	}
	if d.Tell() != tell || d.Bad() != bad {
		t.Fatalf("P14.1: a refused Read at %d, %d ms: Tell() %d, was %d", rate, ms, d.Tell(), tell)
	}
}
