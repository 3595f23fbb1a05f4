package pulse_test

import (
	"bytes"
	"math/rand/v2"
	"slices"
	"testing"

	"madrigal/api"
	"madrigal/pulse"
	"madrigal/rc"
	"madrigal/renc"
)

// told is one thing of a run: pulses, or else a number of renc's own ahead of them, between them, behind them.
type told struct {
	l     []int64
	other step
}

// writing is what was told, one behind the other, and what Tell() was behind each. Apart is written by renc's calls alone.
type writing struct {
	e, apart *renc.Enc
	all      []told
	tells    []int
}

func newWriting() *writing { return &writing{e: renc.New(), apart: renc.New()} }

func (w *writing) put(t *testing.T, v told) {
	t.Helper()
	if v.l == nil {
		v.other.write(w.e)
		v.other.write(w.apart)
	} else {
		if x := pulse.Write(w.e, v.l); x != api.OK {
			t.Fatalf("P9.2: Write(%d): %d", v.l, x)
		}
		writeApart(w.apart, v.l)
	}
	if w.e.Tell() != w.apart.Tell() {
		t.Fatalf("P9.2: Tell() %d behind Write(%d), want %d", w.e.Tell(), v.l, w.apart.Tell())
	}
	w.all = append(w.all, v)
	w.tells = append(w.tells, w.e.Tell())
}

// least is the fewest bytes that hold all.
func (w *writing) least() int { return (w.e.Tell() + 7) / 8 }

// back reads all out of n bytes: by Read and by rc's calls alone what Write wrote, and by Read what renc's calls wrote.
func (w *writing) back(t *testing.T, n int) {
	t.Helper()
	b, x := w.e.Done(n)
	c, y := w.apart.Done(n)
	if x != api.OK || y != api.OK {
		t.Fatalf("P9: Done(%d): %d, %d", n, x, y)
	}
	d, apart, other := rc.New(b), rc.New(b), rc.New(c)
	for i, v := range w.all {
		if v.l == nil {
			for _, from := range []*rc.Dec{d, apart, other} {
				if n := v.other.read(from); n != v.other.v {
					t.Fatalf("P9: number %d, %v is read as %d", i, v.other, n)
				}
			}
		} else {
			w.backPulses(t, d, apart, other, v.l)
		}
		if d.Tell() != w.tells[i] || d.Bad() {
			t.Fatalf("P9.1: behind number %d, %d: Tell() %d, Bad() %t, want %d", i, v.l, d.Tell(), d.Bad(), w.tells[i])
		}
	}
}

func (w *writing) backPulses(t *testing.T, d, apart, other *rc.Dec, want []int64) {
	t.Helper()
	if l, x := pulse.Read(d, len(want)); x != api.OK || !slices.Equal(l, want) {
		t.Fatalf("P9: %d is read as %d, %d", want, l, x)
	}
	if l := readApart(apart, len(want)); !slices.Equal(l, want) {
		t.Fatalf("P9.2: of what Write wrote rc's calls read %d, want %d", l, want)
	}
	if l, x := pulse.Read(other, len(want)); x != api.OK || !slices.Equal(l, want) {
		t.Fatalf("P9.1: of what renc's calls wrote %d is read, %d, want %d", l, x, want)
	}
}

// drawnBlock has pulses in few places, in many, in one half, or is one at an edge.
func drawnBlock(r *rand.Rand) []int64 {
	if r.IntN(8) == 0 {
		edges := edgeBlocks()
		return edges[r.IntN(len(edges))]
	}
	l := make([]int64, 16)
	width := []int{16, 16, 8, 4, 2, 1}[r.IntN(6)]
	from := width * r.IntN(16/width)
	for range r.IntN(17) {
		if i := from + r.IntN(width); l[i] < 0 || l[i] == 0 && r.IntN(2) == 0 {
			l[i]--
		} else {
			l[i]++
		}
	}
	return l
}

func drawnPulses(r *rand.Rand, blocks int) told {
	var l []int64
	for range blocks {
		l = append(l, drawnBlock(r)...)
	}
	return told{l: l}
}

func drawnOther(r *rand.Rand) told {
	switch r.IntN(3) {
	case 0:
		return told{other: step{"symbol", r.IntN(17), 0}}
	case 1:
		ft := 1 + r.IntN(1<<r.IntN(24))
		return told{other: step{"uint", r.IntN(ft), ft}}
	}
	n := r.IntN(25)
	return told{other: step{"bits", r.IntN(1 << n), n}}
}

// One list by itself, of each length.
func TestLists(t *testing.T) {
	r := rand.New(rand.NewPCG(9, 1))
	for n := range 600 {
		w := newWriting()
		w.put(t, drawnPulses(r, 1+n%30))
		w.back(t, w.least())
		w.back(t, w.least()+1)
		w.back(t, api.MaxFrame)
	}
}

// With other things ahead, between and behind.
func TestRuns(t *testing.T) {
	r := rand.New(rand.NewPCG(9, 2))
	for range 500 {
		w := newWriting()
		for w.e.Tell() < 1500 {
			for range r.IntN(3) {
				w.put(t, drawnOther(r))
			}
			w.put(t, drawnPulses(r, 1+r.IntN(12)))
		}
		for range r.IntN(3) {
			w.put(t, drawnOther(r))
		}
		w.back(t, w.least())
		w.back(t, min(w.least()+9, api.MaxFrame))
	}
}

// Past what a frame holds all is counted as it would be read.
func TestRunThatNoFrameHolds(t *testing.T) {
	r := rand.New(rand.NewPCG(9, 3))
	w := newWriting()
	for range 60 {
		w.put(t, drawnPulses(r, 30))
	}
	if b, x := w.e.Done(api.MaxFrame); x != api.ELIMIT || len(b) != 0 {
		t.Errorf("Done behind all that: %d bytes, %d", len(b), x)
	}
}

// anyBytes reads pulses out of these, by Read and by rc's calls alone; what stands behind them is where those find it.
func anyBytes(t *testing.T, b []byte, lengths ...int) {
	t.Helper()
	d, apart := rc.New(b), rc.New(b)
	for i, n := range lengths {
		l, x := pulse.Read(d, n)
		want := readApart(apart, n)
		if x != api.OK || !slices.Equal(l, want) || d.Tell() != apart.Tell() || d.Bad() != apart.Bad() {
			t.Fatalf("P9.1: of %x list %d is %d, %d, Tell() %d, want %d, %d", b, i, l, x, d.Tell(), want, apart.Tell())
		}
		if !goodApart(l) || !pulse.Good(l) {
			t.Fatalf("P9: of %x %d is read, which may not be", b, l)
		}
		if x, y := d.Uint(1000), apart.Uint(1000); x != y {
			t.Fatalf("P9.1: of %x behind list %d: %d, want %d", b, i, x, y)
		}
		if x, y := d.Bits(5), apart.Bits(5); x != y {
			t.Fatalf("P9.1: of %x the bits behind list %d: %d, want %d", b, i, x, y)
		}
	}
}

func TestAnyBytes(t *testing.T) {
	r := rand.New(rand.NewPCG(9, 4))
	anyBytes(t, nil, 16, 32, 480, 16, 480)
	anyBytes(t, []byte{}, 480, 16)
	for v := range 256 {
		anyBytes(t, []byte{byte(v)}, 16, 16, 32, 48)
		anyBytes(t, bytes.Repeat([]byte{byte(v)}, 1+r.IntN(60)), 80, 80, 320)
	}
	for range 2000 {
		b := make([]byte, 2+r.IntN(200))
		for i := range b {
			b[i] = byte(r.Uint32())
		}
		anyBytes(t, b, 16*(1+r.IntN(30)), 16, 16*(1+r.IntN(30)), 80)
	}
}

func TestAllTwoBytes(t *testing.T) {
	for v := range 1 << 16 {
		anyBytes(t, []byte{byte(v >> 8), byte(v)}, 16)
	}
}

// What is written is Good, and what is not Good is refused.
func TestGoodOfAny(t *testing.T) {
	r := rand.New(rand.NewPCG(9, 5))
	seen := [2]int{}
	for range 20000 {
		l := drawnPulses(r, 1+r.IntN(4)).l
		for range r.IntN(12) {
			l[r.IntN(len(l))] += int64(r.IntN(5) - 2)
		}
		want := goodApart(l)
		x := pulse.Write(renc.New(), l)
		if v := pulse.Good(l); v != want || (x == api.OK) != want || !want && x != api.EARG {
			t.Fatalf("P9.2: Good(%d): %t, Write %d, want %t", l, v, x, want)
		}
		if want {
			seen[0]++
		} else {
			seen[1]++
		}
	}
	if seen[0] < 2000 || seen[1] < 2000 {
		t.Errorf("of both kinds %d", seen)
	}
}

func TestFewerOfAny(t *testing.T) {
	r := rand.New(rand.NewPCG(9, 6))
	for range 6000 {
		l := make([]int64, r.IntN(70))
		reach := []int{1, 2, 4, 12, 20, 300}[r.IntN(6)]
		for i := range l {
			l[i] = int64(r.IntN(2*reach+1) - reach)
			if r.IntN(40) == 0 {
				l[i] = int64(far[r.IntN(len(far))])
			}
		}
		most := r.IntN(21) - 2
		f, want := pulse.Fewer(l, most), fewerApart(l, most)
		if !slices.Equal(f, want) {
			t.Fatalf("P9.2: Fewer(%d, %d): %d, want %d", l, most, f, want)
		}
		if whole := f[:len(f)/16*16]; len(whole) > 0 && !pulse.Good(whole) {
			t.Fatalf("P9.2: Fewer(%d, %d): %d, which is not Good", l, most, f)
		}
	}
}

// All lists of four small numbers, with each most.
func TestFewerOfAllFours(t *testing.T) {
	for v := range 7 * 7 * 7 * 7 {
		l := []int64{int64(v%7 - 3), int64(v/7%7 - 3), int64(v/49%7 - 3), int64(v/343 - 3)}
		for most := range 13 {
			if f, want := pulse.Fewer(l, most), fewerApart(l, most); !slices.Equal(f, want) {
				t.Fatalf("P9.2: Fewer(%d, %d): %d, want %d", l, most, f, want)
			}
		}
	}
}
