package gain_test

import (
	"bytes"
	"math"
	"math/rand/v2"
	"testing"

	"madrigal/api"
	"madrigal/gain"
	"madrigal/rc"
	"madrigal/renc"
)

// refusals are all that may not be written.
func refusals() []told {
	var l []told
	for _, g := range append([]int{-9, -8, -2, -1, 64, 65, 71, 72, 127}, far...) {
		l = append(l, told{what: "first", g: g})
	}
	ltp := func(rate, lag, taps int) {
		l = append(l, told{what: "ltp", rate: rate, ltp: gain.Ltp{Lag: lag, Taps: taps}})
	}
	for _, rate := range noRates {
		for _, lag := range []int{-1, 0, 1, 16, 32, 50, 144, 288, rate / 500, 18 * (rate / 1000)} {
			ltp(rate, lag, 0)
			ltp(rate, lag, 7)
			ltp(rate, lag, 8)
		}
	}
	for _, rate := range []int{8000, 16000} {
		least, most, _ := lagsOf(rate)
		for _, lag := range []int{math.MinInt, -1 << 32, -most, -least, -1, 0, least - 2, least - 1, most + 1, most + 2, most + least, 1<<32 + least, math.MaxInt} {
			for _, taps := range []int{-1, 0, 3, 7, 8} {
				ltp(rate, lag, taps)
			}
		}
		for _, taps := range []int{math.MinInt, -256, -8, -2, -1, 8, 9, 16, 256, 1 << 32, math.MaxInt} {
			ltp(rate, least, taps)
			ltp(rate, most, taps)
			ltp(rate, 100, taps)
		}
	}
	// A lag of the other rate.
	ltp(8000, 145, 0)
	ltp(8000, 288, 0)
	ltp(16000, 31, 0)
	ltp(16000, 16, 0)
	return l
}

func mustRefuse(t *testing.T, e *renc.Enc, w told) {
	t.Helper()
	tell := e.Tell()
	x := api.OK
	if w.what == "first" {
		x = gain.WriteFirst(e, w.g)
	} else {
		x = gain.WriteLtp(e, w.rate, w.ltp)
	}
	if x != api.EARG {
		t.Fatalf("P8: writing %v: %d, want EARG", w, x)
	}
	if e.Tell() != tell {
		t.Fatalf("P8: a refused writing of %v: Tell() %d, was %d", w, e.Tell(), tell)
	}
}

// What is written behind a refusal is read as if it had not been asked for, and the bytes are the same.
func TestRefusalsWriteNothing(t *testing.T) {
	r := rand.New(rand.NewPCG(8, 6))
	for _, wrong := range refusals() {
		w, plain := newRun(), newRun()
		mustRefuse(t, w.e, wrong)
		for range 3 {
			for _, v := range []told{{what: "first", g: r.IntN(64)}, drawnNext(r, 20), drawnLtp(r, 8000), drawnLtp(r, 16000)} {
				w.put(t, v)
				plain.put(t, v)
				mustRefuse(t, w.e, wrong)
			}
			for _, e := range []*renc.Enc{w.e, w.apart, plain.e, plain.apart} {
				e.Bits(5, 3)
			}
		}
		same(t, wrong, w.e, plain.e)
		readWithBits(t, w)
	}
}

func TestManyRefusals(t *testing.T) {
	r := rand.New(rand.NewPCG(8, 7))
	w, plain := newRun(), newRun()
	for i, wrong := range refusals() {
		if v := drawnNext(r, 33); i%8 == 0 {
			w.put(t, v)
			plain.put(t, v)
		}
		mustRefuse(t, w.e, wrong)
	}
	same(t, told{}, w.e, plain.e)
	w.back(t, w.least())
}

// same holds the bytes of two against each other: one was asked for what it refuses.
func same(t *testing.T, wrong told, e, plain *renc.Enc) {
	t.Helper()
	for _, n := range []int{(e.Tell() + 7) / 8, (e.Tell()+7)/8 + 2, api.MaxFrame} {
		b, x := e.Done(n)
		c, y := plain.Done(n)
		if x != api.OK || y != api.OK || !bytes.Equal(b, c) {
			t.Fatalf("P8: behind a refused writing of %v: %x, want %x", wrong, b, c)
		}
	}
}

// readWithBits asks for the bits from the end, too, that were written behind each four.
func readWithBits(t *testing.T, w *run) {
	t.Helper()
	b, _ := w.e.Done(w.least())
	d := rc.New(b)
	for i, v := range w.all {
		if n := v.read(d); n != v {
			t.Fatalf("P8: number %d, %v is read, want %v", i, n, v)
		}
		if i%4 == 3 {
			if n := d.Bits(3); n != 5 {
				t.Fatalf("P8: the bits behind number %d: %d, want 5", i, n)
			}
		}
	}
}

// What is clamped is never refused.
func TestNextIsNeverRefused(t *testing.T) {
	for _, g := range far {
		for _, was := range far {
			e := renc.New()
			if n, x := gain.WriteNext(e, g, was); x != api.OK || n < 0 || n > 63 || e.Tell() == 1 {
				t.Errorf("P8.1: WriteNext(%d, %d): %d, %d, Tell() %d", g, was, n, x, e.Tell())
			}
		}
	}
}

// One reader, or writer, knows nothing of another.
func TestCallsTellNothingToEachOther(t *testing.T) {
	r := rand.New(rand.NewPCG(8, 8))
	a, b := newRun(), newRun()
	for range 60 {
		a.put(t, drawnNext(r, r.IntN(64)))
		b.put(t, drawnLtp(r, 16000))
		a.put(t, told{what: "first", g: r.IntN(64)})
		b.put(t, drawnLtp(r, 8000))
	}
	a.back(t, a.least())
	b.back(t, b.least())
}
