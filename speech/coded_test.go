package speech_test

import (
	"bytes"
	"math"
	"math/rand/v2"
	"slices"
	"testing"

	"madrigal/api"
	"madrigal/gain"
	"madrigal/lsf"
	"madrigal/rc"
	"madrigal/renc"
	"madrigal/speech"
	"madrigal/tabs"
)

// mustRead reads a frame: by Read, and by the calls of the layers below.
func mustRead(t *testing.T, w form, d, apart *rc.Dec, was int) speech.Frame {
	t.Helper()
	f, x := speech.Read(d, w.rate, w.ms, was)
	want := w.readApart(apart, was)
	if x != api.OK || !equal(f, want) {
		t.Fatalf("P14.1: %v, was %d: %+v is read, %d, want %+v", w, was, f, x, want)
	}
	if d.Tell() != apart.Tell() || d.Bad() != apart.Bad() {
		t.Fatalf("P14.1: %v: behind Read of %+v: Tell() %d, Bad() %t, want %d, %t", w, f, d.Tell(), d.Bad(), apart.Tell(), apart.Bad())
	}
	if !speech.Good(w.rate, w.ms, f) || !goodApart(w.rate, w.ms, f) {
		t.Fatalf("P14.1: %v: %+v is read, which is not Good", w, f)
	}
	if f.Kind < 2 && len(f.Ltps) > 0 || f.Kind == 0 && len(f.Pulses) > 0 {
		t.Fatalf("P14.1: %v: of Kind %d %d Ltps and %d pulses are read", w, f.Kind, len(f.Ltps), len(f.Pulses))
	}
	return f
}

// told is a frame that was asked for, what was told of it, and what Tell() was behind it.
type told struct {
	form
	was      int
	f        speech.Frame
	tell     int
	between  int
	bits, ft int
}

// writing is what was told, one behind the other. Apart is written by the calls of the layers below.
type writing struct {
	e, apart *renc.Enc
	all      []told
}

func newWriting() *writing { return &writing{e: renc.New(), apart: renc.New()} }

func (l *writing) put(t *testing.T, w form, was int, f speech.Frame) speech.Frame {
	t.Helper()
	g, x := speech.Write(l.e, w.rate, w.ms, was, f)
	want := w.writeApart(l.apart, was, f)
	if x != api.OK || !equal(g, want) {
		t.Fatalf("P14.2: %v, was %d: Write(%+v): %+v, %d, want %+v", w, was, f, g, x, want)
	}
	if l.e.Tell() != l.apart.Tell() {
		t.Fatalf("P14.2: %v: Tell() %d behind Write(%+v), want %d", w, l.e.Tell(), f, l.apart.Tell())
	}
	l.all = append(l.all, told{form: w, was: was, f: want, tell: l.e.Tell()})
	return g
}

// other writes numbers of renc's own behind a frame: the next one begins elsewhere.
func (l *writing) other(v, ft, n int) {
	for _, e := range []*renc.Enc{l.e, l.apart} {
		e.Uint(v%ft, ft)
		e.Bits(v%(1<<n), n)
	}
	last := &l.all[len(l.all)-1]
	last.between, last.ft, last.bits = v, ft, n
}

// back reads all out of n bytes: by Read and by the calls of the layers below what Write wrote, and by Read what those calls wrote.
func (l *writing) back(t *testing.T, n int) {
	t.Helper()
	b, x := l.e.Done(n)
	c, y := l.apart.Done(n)
	if x != api.OK || y != api.OK {
		t.Fatalf("P14: Done(%d): %d, %d", n, x, y)
	}
	d, apart, other := rc.New(b), rc.New(b), rc.New(c)
	for i, v := range l.all {
		if f := mustRead(t, v.form, d, apart, v.was); !equal(f, v.f) || d.Tell() != v.tell || d.Bad() {
			t.Fatalf("P14.2: frame %d, %+v is read, Tell() %d, Bad() %t, want %+v, %d", i, f, d.Tell(), d.Bad(), v.f, v.tell)
		}
		if f, _ := speech.Read(other, v.rate, v.ms, v.was); !equal(f, v.f) {
			t.Fatalf("P14.1: frame %d of what the layers below wrote: %+v is read, want %+v", i, f, v.f)
		}
		for _, from := range []*rc.Dec{d, apart, other} {
			if v.ft > 0 && (from.Uint(v.ft) != v.between%v.ft || from.Bits(v.bits) != v.between%(1<<v.bits)) {
				t.Fatalf("P14: what stands behind frame %d is not read", i)
			}
		}
	}
}

// least is the fewest bytes that hold all.
func (l *writing) least() int { return (l.e.Tell() + 7) / 8 }

// mustWrite writes a good frame by itself.
func mustWrite(t *testing.T, w form, was int, f speech.Frame) speech.Frame {
	t.Helper()
	l := newWriting()
	g := l.put(t, w, was, f)
	for _, n := range []int{l.least(), l.least() + 1, api.MaxFrame} {
		l.back(t, n)
	}
	return g
}

// The reference's tables and bounds are those of the layers below.
func TestTables(t *testing.T) {
	for k, want := range map[int][]int{0: kinds, 3: ones, 4: twos} {
		if l := tabs.Icdf(k); !slices.Equal(l, want) {
			t.Errorf("Icdf(%d): %d, want %d", k, l, want)
		}
	}
	for i, want := range taps {
		if l := tabs.Taps(i); l != want || tabs.Filters() != len(taps) {
			t.Errorf("Taps(%d): %d, want %d", i, l, want)
		}
	}
	for _, w := range forms {
		a, b := w.lags()
		if least, most := gain.Lags(w.rate); least != a || most != b {
			t.Errorf("Lags(%d): %d, %d, want %d, %d", w.rate, least, most, a, b)
		}
	}
}

// Each frame of some turns by itself, behind others that were told far off.
func TestFramesByThemselves(t *testing.T) {
	for _, w := range forms {
		for kind := range 3 {
			for turn := range 40 {
				f := w.voiced(kind, turn)
				if g := mustWrite(t, w, f.Gains[0], f); !equal(g, f) {
					t.Fatalf("P14.2: Write(%+v): %+v", f, g)
				}
				for _, was := range []int{0, 20, 63, -5, 70} {
					mustWrite(t, w, was, f)
				}
			}
		}
	}
}

// Fields told by hand, in the order of the chapter.
func TestReadByHand(t *testing.T) {
	e := renc.New()
	e.Bits(1, 1)
	e.Symbol(2, kinds)
	e.Symbol(11, ones)
	for _, s := range []int{0, 1, 2, 3, 4, 5, 6, 7, 8, 4} {
		e.Symbol(s, twos)
	}
	e.Uint(3, 5)
	e.Symbol(5, []int{224, 192, 160, 128, 96, 64, 32, 0})
	e.Uint(6, 8)
	e.Symbol(11, []int{252, 247, 240, 230, 214, 190, 150, 106, 66, 42, 26, 16, 10, 6, 4, 2, 0})
	for _, l := range [][2]int{{7, 2}, {128, 5}} {
		e.Uint(l[0], 129)
		e.Symbol(l[1], []int{205, 163, 128, 97, 70, 44, 20, 0})
	}
	// One pulse, the first sample of the second block; its sign is turned.
	for _, k := range []int{0, 1, 0, 0, 0} {
		e.Symbol(k, []int{218, 180, 148, 122, 100, 82, 67, 54, 43, 34, 26, 19, 14, 10, 6, 3, 0})
		for range 4 * k {
			e.Uint(1, 2)
		}
		e.Bits(1, k)
	}
	want := speech.Frame{
		Fresh: true, Kind: 2, Lsf: lsf.Index{One: 11, Two: []int{-4, -3, -2, -1, 0, 1, 2, 3, 4, 0}}, Between: 3, Gains: []int{46, 49},
		Ltps: []gain.Ltp{{Lag: 23, Taps: 2}, {Lag: 144, Taps: 5}}, Pulses: append(append(make([]int64, 16), -1), make([]int64, 63)...),
	}
	b, x := e.Done(20)
	d := rc.New(b)
	f, y := speech.Read(d, 8000, 10, 0)
	if x != api.OK || y != api.OK || !equal(f, want) || d.Tell() != e.Tell() || d.Bad() {
		t.Errorf("P14.1: %+v is read, %d, %d, Tell() %d, want %+v, %d", f, x, y, d.Tell(), want, e.Tell())
	}
	if g := mustWrite(t, form{8000, 10}, 0, want); !equal(g, want) {
		t.Errorf("P14.2: %+v is told, want %+v", g, want)
	}
}

// Each value of each field by itself comes back.
func TestEachValue(t *testing.T) {
	for _, w := range forms {
		back := func(f speech.Frame) {
			t.Helper()
			if g := mustWrite(t, w, f.Gains[0], f); !equal(g, f) {
				t.Fatalf("P14.2: %v: Write(%+v): %+v", w, f, g)
			}
		}
		for _, fresh := range []bool{false, true} {
			for kind := range 3 {
				for v := range 16 {
					f := w.voiced(kind, v)
					f.Fresh, f.Lsf.One, f.Between = fresh, v, v%5
					back(f)
				}
			}
			for k := range w.order() {
				for v := -4; v <= 4; v++ {
					f := w.voiced(0, k)
					f.Fresh, f.Lsf.Two[k] = fresh, v
					back(f)
				}
			}
			for g := range 64 {
				f := w.voiced(1, g)
				f.Fresh, f.Gains = fresh, slices.Repeat([]int{g}, w.subframes())
				back(f)
			}
		}
		least, most := w.lags()
		for lag := least; lag <= most; lag++ {
			for i := range w.subframes() {
				f := w.voiced(2, lag)
				f.Ltps[i] = gain.Ltp{Lag: lag, Taps: (lag + i) % 8}
				back(f)
			}
		}
	}
}

// Gains that can't be reached, by hand: of was, of a Fresh frame, of each place.
func TestGainsByHand(t *testing.T) {
	for _, c := range []struct {
		fresh     bool
		was       int
		ask, told []int
	}{
		{false, 24, []int{60, 0, 63, 63}, []int{32, 24, 32, 40}},
		{true, 24, []int{60, 0, 63, 63}, []int{60, 52, 60, 63}},
		{false, 0, []int{63, 63, 63, 63}, []int{8, 16, 24, 32}},
		{false, 63, []int{0, 0, 0, 0}, []int{55, 47, 39, 31}},
		{true, 0, []int{63, 0, 0, 0}, []int{63, 55, 47, 39}},
		{true, 63, []int{0, 63, 63, 63}, []int{0, 8, 16, 24}},
		// Just what can be reached, and one more.
		{false, 20, []int{28, 36, 28, 20}, []int{28, 36, 28, 20}},
		{false, 20, []int{29, 36, 28, 20}, []int{28, 36, 28, 20}},
		{false, 20, []int{28, 37, 28, 20}, []int{28, 36, 28, 20}},
		{false, 20, []int{28, 36, 27, 20}, []int{28, 36, 28, 20}},
		{false, 20, []int{28, 36, 28, 19}, []int{28, 36, 28, 20}},
		{true, 20, []int{40, 49, 57, 49}, []int{40, 48, 56, 49}},
		{true, 20, []int{40, 31, 23, 31}, []int{40, 32, 24, 31}},
		{false, 20, []int{11, 4, 0, 8}, []int{12, 4, 0, 8}},
		// One that can't be reached does not spoil the next one.
		{false, 30, []int{63, 30, 30, 30}, []int{38, 30, 30, 30}},
		{false, 30, []int{30, 0, 23, 30}, []int{30, 22, 23, 30}},
		{false, 30, []int{0, 63, 0, 63}, []int{22, 30, 22, 30}},
		// What was is clamped.
		{false, -1, []int{9, 0, 0, 0}, []int{8, 0, 0, 0}},
		{false, -100, []int{63, 9, 9, 9}, []int{8, 9, 9, 9}},
		{false, math.MinInt, []int{8, 9, 9, 9}, []int{8, 9, 9, 9}},
		{false, 64, []int{54, 55, 55, 55}, []int{55, 55, 55, 55}},
		{false, 72, []int{0, 55, 55, 55}, []int{55, 55, 55, 55}},
		{false, math.MaxInt, []int{63, 63, 63, 0}, []int{63, 63, 63, 55}},
		{true, math.MaxInt, []int{1, 2, 3, 4}, []int{1, 2, 3, 4}},
		{true, math.MinInt, []int{61, 62, 63, 60}, []int{61, 62, 63, 60}},
	} {
		for _, w := range forms {
			for kind := range 3 {
				f := w.voiced(kind, c.was&7)
				f.Fresh, f.Gains = c.fresh, c.ask[:w.subframes()]
				g := mustWrite(t, w, c.was, f)
				if !slices.Equal(g.Gains, c.told[:w.subframes()]) {
					t.Errorf("P14.2: was %d, Fresh %t: gains %d: %d are told, want %d", c.was, c.fresh, f.Gains, g.Gains, c.told)
				}
				// All else is as it was.
				f.Gains = g.Gains
				if !equal(f, g) {
					t.Errorf("P14.2: %+v is told, want %+v", g, f)
				}
				// What can be told is told as it is.
				if again := mustWrite(t, w, c.was, g); !equal(again, g) {
					t.Errorf("P14.2: what was told is told as %+v, want %+v", again, g)
				}
			}
		}
	}
}

// The first gain of all that there are behind each that was, at each place.
func TestGainsOfAll(t *testing.T) {
	w := form{8000, 10}
	f := w.voiced(0, 1)
	for a := range 64 {
		for b := range 64 {
			f.Fresh, f.Gains = false, []int{b, a}
			first := min(max(b, a-8), a+8)
			if g := mustWrite(t, w, a, f); g.Gains[0] != first || g.Gains[1] != min(max(a, first-8), first+8) {
				t.Fatalf("P14.2: was %d, gains %d: %d are told", a, f.Gains, g.Gains)
			}
			f.Fresh, f.Gains = true, []int{a, b}
			if g := mustWrite(t, w, b, f); g.Gains[0] != a || g.Gains[1] != first {
				t.Fatalf("P14.2: gains %d of a Fresh frame: %d are told", f.Gains, g.Gains)
			}
		}
	}
}

// What was does nothing to a Fresh frame, and is clamped for another one.
func TestReadOfAnyWas(t *testing.T) {
	r := rand.New(rand.NewPCG(14, 1))
	about := append([]int{-9, -8, -1, 0, 1, 8, 20, 55, 62, 63, 64, 71, 72}, far...)
	seen := [2]int{}
	for n := range 200 {
		w := forms[n%4]
		b := noise(r, 20+r.IntN(120))
		first, _ := speech.Read(rc.New(b), w.rate, w.ms, 31)
		for _, was := range about {
			f := mustRead(t, w, rc.New(b), rc.New(b), was)
			if f.Fresh {
				if !equal(f, first) {
					t.Fatalf("P14.1: of a Fresh frame, was %d: %+v is read, of 31 %+v", was, f, first)
				}
				seen[1]++
				continue
			}
			clamped, _ := speech.Read(rc.New(b), w.rate, w.ms, min(max(was, 0), 63))
			if !equal(f, clamped) {
				t.Fatalf("P14.1: was %d: %+v is read, of what is clamped %+v", was, f, clamped)
			}
			f.Gains = first.Gains
			if !equal(f, first) {
				t.Fatalf("P14.1: was %d changes more than the gains: %+v, want %+v", was, f, first)
			}
			seen[0]++
		}
	}
	if seen[0] < 1000 || seen[1] < 1000 {
		t.Errorf("of both kinds %d", seen)
	}
}

func noise(r *rand.Rand, n int) []byte {
	b := make([]byte, n)
	for i := range b {
		b[i] = byte(r.Uint32())
	}
	return b
}

// anyBytes reads frames of all forms out of these, one behind the other; what stands behind is where the layers below find it.
func anyBytes(t *testing.T, r *rand.Rand, b []byte, seen map[int]int) {
	t.Helper()
	d, apart := rc.New(b), rc.New(b)
	was := r.IntN(64)
	for range 3 {
		f := mustRead(t, forms[r.IntN(4)], d, apart, was)
		if was = f.Gains[len(f.Gains)-1]; r.IntN(9) == 0 {
			was = far[r.IntN(len(far))]
		}
		seen[f.Kind]++
		if x, y := d.Uint(1000), apart.Uint(1000); x != y {
			t.Fatalf("P14.1: of %x behind a frame: %d, want %d", b, x, y)
		}
		if x, y := d.Bits(5), apart.Bits(5); x != y {
			t.Fatalf("P14.1: of %x the bits behind a frame: %d, want %d", b, x, y)
		}
	}
}

func TestAnyBytes(t *testing.T) {
	r := rand.New(rand.NewPCG(14, 2))
	seen := map[int]int{}
	for range 20 {
		anyBytes(t, r, nil, seen)
		anyBytes(t, r, []byte{}, seen)
	}
	for v := range 256 {
		for range 3 {
			anyBytes(t, r, []byte{byte(v)}, seen)
			anyBytes(t, r, bytes.Repeat([]byte{byte(v)}, 1+r.IntN(300)), seen)
		}
	}
	for range 3000 {
		anyBytes(t, r, noise(r, r.IntN(12)), seen)
		anyBytes(t, r, noise(r, r.IntN(300)), seen)
	}
	if seen[0] < 1000 || seen[1] < 1000 || seen[2] < 1000 {
		t.Errorf("of each Kind %d", seen)
	}
}

// The first frame alone, of all that two bytes can be.
func TestAllTwoBytes(t *testing.T) {
	for v := range 1 << 16 {
		b := []byte{byte(v >> 8), byte(v)}
		mustRead(t, forms[v%4], rc.New(b), rc.New(b), v%80-8)
	}
}

// Of bytes that end too early all is read as noughts behind them would have it, and the reader is Bad.
func TestBytesThatEnd(t *testing.T) {
	for n, w := range forms {
		for kind := range 3 {
			l := newWriting()
			f := l.put(t, w, 30, w.voiced(kind, n))
			b, _ := l.e.Done(l.least())
			for cut := range len(b) {
				d := rc.New(b[:cut])
				mustRead(t, w, d, rc.New(b[:cut]), 30)
			}
			d := rc.New(b)
			if g := mustRead(t, w, d, rc.New(b), 30); !equal(f, g) || d.Bad() {
				t.Errorf("P14.1: %+v is read, want %+v", g, f)
			}
			d = rc.New(nil)
			if mustRead(t, w, d, rc.New(nil), 30); !d.Bad() {
				t.Errorf("P14.1: behind no bytes nothing is Bad")
			}
		}
	}
}

// Of Uint's 257 lags one too many can be read: it is the greatest then, and the reader is Bad.
func TestLagThatIsBad(t *testing.T) {
	for _, ms := range []int{10, 20} {
		for at := range ms / 5 {
			e := renc.New()
			e.Bits(0, 1)
			e.Symbol(2, kinds)
			e.Symbol(3, ones)
			for range 16 {
				e.Symbol(4, twos)
			}
			e.Uint(0, 5)
			for range ms / 5 {
				gain.WriteNext(e, 30, 30)
			}
			for i := range ms / 5 {
				if i == at {
					e.Uint(128, 129)
					e.Bits(1, 1)
					e.Symbol(5, []int{205, 163, 128, 97, 70, 44, 20, 0})
				} else {
					gain.WriteLtp(e, 16000, gain.Ltp{Lag: 50 + i, Taps: i})
				}
			}
			b, _ := e.Done(100)
			d := rc.New(b)
			f := mustRead(t, form{16000, ms}, d, rc.New(b), 30)
			for i, l := range f.Ltps {
				if i == at && l != (gain.Ltp{Lag: 288, Taps: 5}) || i != at && l != (gain.Ltp{Lag: 50 + i, Taps: i}) {
					t.Errorf("P14.1: Ltp %d is read as %d", i, l)
				}
			}
			if !d.Bad() {
				t.Errorf("P14.1: behind a lag that is none nothing is Bad")
			}
		}
	}
}

// Frames one behind the other, as a voice tells them, with other things between.
func TestRunsOfFrames(t *testing.T) {
	r := rand.New(rand.NewPCG(14, 3))
	for n := range 400 {
		l, w, was := newWriting(), forms[n%4], r.IntN(64)
		for l.e.Tell() < 6000 {
			if n%5 == 0 {
				w = forms[r.IntN(4)]
			}
			g := l.put(t, w, was, w.drawnGood(r))
			was = g.Gains[len(g.Gains)-1]
			if r.IntN(3) == 0 {
				l.other(r.IntN(1<<20), 1+r.IntN(1<<r.IntN(20)), r.IntN(20))
			}
		}
		l.back(t, l.least())
		l.back(t, min(l.least()+9, api.MaxFrame))
	}
}

// What is told does not hang on what was written ahead, and a writer that is past what a frame holds counts on.
func TestRunThatNoFrameHolds(t *testing.T) {
	r := rand.New(rand.NewPCG(14, 4))
	l := newWriting()
	for n := range 300 {
		w := forms[n%4]
		f, was := w.drawnGood(r), r.IntN(64)
		g := l.put(t, w, was, f)
		if alone, _ := speech.Write(renc.New(), w.rate, w.ms, was, f); !equal(alone, g) {
			t.Fatalf("P14.2: behind others %+v is told, by itself %+v", g, alone)
		}
	}
	if b, x := l.e.Done(api.MaxFrame); x != api.ELIMIT || len(b) > 0 {
		t.Errorf("Done behind all that: %d bytes, %d", len(b), x)
	}
}

// What is written is Good, and what is not Good is refused.
func TestGoodOfAny(t *testing.T) {
	r := rand.New(rand.NewPCG(14, 5))
	seen := [2]int{}
	for n := range 4000 {
		w := forms[n%4]
		f := w.drawnGood(r)
		if n%2 == 0 {
			f = w.drawnWrong(r)
		}
		other := forms[r.IntN(4)]
		for _, at := range []form{w, other, {w.rate, other.ms}, {other.rate, w.ms}, {w.ms, w.rate}} {
			want := goodApart(at.rate, at.ms, f)
			_, x := speech.Write(renc.New(), at.rate, at.ms, 30, f)
			if good := speech.Good(at.rate, at.ms, f); good != want || (x == api.OK) != want || !want && x != api.EARG {
				t.Fatalf("P14.1: %v: Good(%+v): %t, Write %d, want %t", at, f, good, x, want)
			}
			seen[map[bool]int{true: 1}[want]]++
		}
	}
	if seen[0] < 2000 || seen[1] < 2000 {
		t.Errorf("of both kinds %d", seen)
	}
}
