package gain_test

import (
	"bytes"
	"math"
	"math/rand/v2"
	"testing"

	"madrigal/api"
	"madrigal/gain"
	"madrigal/rc"
	"madrigal/renc"
)

// run is what was told, one behind the other, and what Tell() was behind each. Apart is written by renc's calls alone.
type run struct {
	e, apart *renc.Enc
	all      []told
	tells    []int
}

// put writes; what is read then is kept.
func (r *run) put(t *testing.T, w told) {
	t.Helper()
	n, x := w.g, api.OK
	switch w.what {
	case "first":
		x = gain.WriteFirst(r.e, w.g)
	case "next":
		n, x = gain.WriteNext(r.e, w.g, w.was)
	case "ltp":
		x = gain.WriteLtp(r.e, w.rate, w.ltp)
	}
	want := w.writeApart(r.apart)
	if x != api.OK || n != want.g {
		t.Fatalf("P8: writing %v: %d, %d, want %d", w, n, x, want.g)
	}
	if r.e.Tell() != r.apart.Tell() {
		t.Fatalf("P8: Tell() %d behind writing %v, want %d", r.e.Tell(), w, r.apart.Tell())
	}
	r.all = append(r.all, want)
	r.tells = append(r.tells, r.e.Tell())
}

// least is the fewest bytes that hold all.
func (r *run) least() int { return (r.e.Tell() + 7) / 8 }

// back reads all out of n bytes, by gain and by rc alone; and by gain what renc alone wrote.
func (r *run) back(t *testing.T, n int) {
	t.Helper()
	b, x := r.e.Done(n)
	c, y := r.apart.Done(n)
	if x != api.OK || y != api.OK {
		t.Fatalf("P8: Done(%d): %d, %d", n, x, y)
	}
	d, apart, other := rc.New(b), rc.New(b), rc.New(c)
	for i, w := range r.all {
		if v := w.read(d); v != w {
			t.Fatalf("P8: number %d, %v is read, want %v", i, v, w)
		}
		if v := w.readApart(apart); v != w {
			t.Fatalf("P8: number %d, rc's calls read %v, want %v", i, v, w)
		}
		if v := w.read(other); v != w {
			t.Fatalf("P8: number %d, of what renc's calls wrote %v is read, want %v", i, v, w)
		}
		if d.Tell() != r.tells[i] || d.Bad() {
			t.Fatalf("P8: behind number %d, %v: Tell() %d, Bad() %t, want %d", i, w, d.Tell(), d.Bad(), r.tells[i])
		}
	}
}

func newRun() *run { return &run{e: renc.New(), apart: renc.New()} }

// drawnNext is a loudness about another one, or far from it, or any.
func drawnNext(r *rand.Rand, was int) told {
	g := was + r.IntN(19) - 9
	switch r.IntN(5) {
	case 0:
		g = r.IntN(64)
	case 1:
		g = far[r.IntN(len(far))]
	}
	return told{what: "next", g: g, was: was}
}

func drawnLtp(r *rand.Rand, rate int) told {
	least, most, _ := lagsOf(rate)
	lag := []int{least, most, least + r.IntN(most-least+1)}[r.IntN(3)]
	return told{what: "ltp", rate: rate, ltp: gain.Ltp{Lag: lag, Taps: r.IntN(8)}}
}

// Loudnesses one behind the other, what repeats behind them, as a voice tells it.
func TestRunsOfSubframes(t *testing.T) {
	r := rand.New(rand.NewPCG(8, 1))
	for n := range 400 {
		rate := 8000 + 8000*(n%2)
		w := newRun()
		w.put(t, told{what: "first", g: r.IntN(64)})
		for range 1 + r.IntN(12) {
			w.put(t, drawnNext(r, w.all[len(w.all)-1].g))
		}
		for range r.IntN(12) {
			w.put(t, drawnLtp(r, rate))
		}
		w.back(t, w.least())
		w.back(t, w.least()+1)
		w.back(t, api.MaxFrame)
	}
}

// In any order, at both rates in turn.
func TestRunsOfAll(t *testing.T) {
	r := rand.New(rand.NewPCG(8, 2))
	for n := range 300 {
		w := newRun()
		for range n {
			switch r.IntN(4) {
			case 0:
				w.put(t, told{what: "first", g: r.IntN(64)})
			case 1:
				w.put(t, drawnLtp(r, 8000))
			case 2:
				w.put(t, drawnLtp(r, 16000))
			default:
				w.put(t, drawnNext(r, far[r.IntN(len(far))]))
				w.put(t, drawnNext(r, r.IntN(80)-8))
			}
		}
		w.back(t, w.least())
		w.back(t, min(w.least()+40, api.MaxFrame))
	}
}

// Past what a frame holds all is counted as it would be read.
func TestRunsThatNoFrameHolds(t *testing.T) {
	r := rand.New(rand.NewPCG(8, 3))
	w := newRun()
	for range 3000 {
		w.put(t, told{what: "first", g: r.IntN(64)})
		w.put(t, drawnNext(r, r.IntN(64)))
		w.put(t, drawnLtp(r, 16000))
	}
	if b, x := w.e.Done(api.MaxFrame); x != api.ELIMIT || len(b) != 0 {
		t.Errorf("Done behind all that: %d bytes, %d", len(b), x)
	}
}

// anyBytes reads these as is drawn, by gain and by rc alone: it tells how often a lag was read that none has.
func anyBytes(t *testing.T, r *rand.Rand, b []byte, n int) (bad int) {
	t.Helper()
	d, apart := rc.New(b), rc.New(b)
	was, wasBad := r.IntN(64), d.Bad()
	for i := range n {
		w := told{what: []string{"first", "next", "next", "ltp"}[r.IntN(4)], was: was, rate: 8000 + 8000*r.IntN(2)}
		if r.IntN(10) == 0 {
			w.was, w.rate = far[r.IntN(len(far))], noRates[r.IntN(len(noRates))]
		}
		v, want := w.read(d), w.readApart(apart)
		if v != want || d.Tell() != apart.Tell() || d.Bad() != apart.Bad() {
			t.Fatalf("P8: of %x number %d, %v: %v is read, Tell() %d, Bad() %t; want %v, %d, %t", b, i, w, v, d.Tell(), d.Bad(), want, apart.Tell(), apart.Bad())
		}
		held(t, v)
		if !wasBad && d.Bad() && d.Tell() <= 8*len(b) {
			bad++
		}
		was, wasBad = v.g, d.Bad()
	}
	// What stands behind is where rc's calls would find it.
	if x, y := d.Uint(1<<20), apart.Uint(1<<20); x != y {
		t.Fatalf("P8: of %x behind all: %d, want %d", b, x, y)
	}
	return bad
}

// held tells whether what is read can be at all.
func held(t *testing.T, w told) {
	t.Helper()
	least, most, many := lagsOf(w.rate)
	switch {
	case w.what != "ltp" && (w.g < 0 || w.g > 63),
		w.what == "ltp" && many == 0 && w.ltp != (gain.Ltp{}),
		w.what == "ltp" && many > 0 && (w.ltp.Lag < least || w.ltp.Lag > most || w.ltp.Taps < 0 || w.ltp.Taps > 7):
		t.Fatalf("P8: %v is read", w)
	}
}

func TestAnyBytes(t *testing.T) {
	r := rand.New(rand.NewPCG(8, 4))
	for range 50 {
		anyBytes(t, r, nil, 30)
		anyBytes(t, r, []byte{}, 30)
	}
	for v := range 256 {
		for range 4 {
			anyBytes(t, r, []byte{byte(v)}, 12)
			anyBytes(t, r, bytes.Repeat([]byte{byte(v)}, 1+r.IntN(50)), 40)
		}
	}
	bad := 0
	for range 4000 {
		b := make([]byte, 2+r.IntN(80))
		for i := range b {
			b[i] = byte(r.Uint32())
		}
		bad += anyBytes(t, r, b, 60)
	}
	if bad < 50 {
		t.Errorf("only %d times a lag was read that none has", bad)
	}
}

// The first call alone, of all that two bytes can be.
func TestAllTwoBytes(t *testing.T) {
	for _, w := range []told{{what: "first"}, {what: "next", was: 31}, {what: "ltp", rate: 8000}, {what: "ltp", rate: 16000}} {
		for v := range 1 << 16 {
			b := []byte{byte(v >> 8), byte(v)}
			d, apart := rc.New(b), rc.New(b)
			if n, want := w.read(d), w.readApart(apart); n != want || d.Tell() != apart.Tell() || d.Bad() != apart.Bad() {
				t.Fatalf("P8: of %x: %v is read, Tell() %d; want %v, %d", b, n, d.Tell(), want, apart.Tell())
			}
		}
	}
}

func TestNoBytes(t *testing.T) {
	for _, b := range [][]byte{nil, {}} {
		for _, w := range []told{{what: "first"}, {what: "next", was: 63}, {what: "next", was: math.MinInt}, {what: "ltp", rate: 8000}, {what: "ltp", rate: 16000}} {
			d, apart := rc.New(b), rc.New(b)
			if n, want := w.read(d), w.readApart(apart); n != want || !d.Bad() {
				t.Errorf("P8: of no bytes %v is read, Bad() %t, want %v", n, d.Bad(), want)
			}
		}
	}
}

// Of a rate that has no lags nothing is read, wherever it is asked for.
func TestReadLtpOfAnotherRate(t *testing.T) {
	r := rand.New(rand.NewPCG(8, 5))
	for _, rate := range noRates {
		for _, size := range []int{0, 1, 3, 40} {
			b := make([]byte, size)
			for i := range b {
				b[i] = byte(r.Uint32())
			}
			d, apart := rc.New(b), rc.New(b)
			for range 6 {
				tell, bad := d.Tell(), d.Bad()
				if l := gain.ReadLtp(d, rate); l != (gain.Ltp{}) || d.Tell() != tell || d.Bad() != bad {
					t.Fatalf("P8.2: ReadLtp of rate %d: %d, Tell() %d, was %d", rate, l, d.Tell(), tell)
				}
				for _, w := range []told{{what: "first"}, {what: "ltp", rate: 16000}, {what: "next", was: 9}} {
					if v, want := w.read(d), w.readApart(apart); v != want || d.Tell() != apart.Tell() {
						t.Fatalf("P8.2: behind ReadLtp of rate %d: %v is read, want %v", rate, v, want)
					}
				}
			}
		}
	}
}
