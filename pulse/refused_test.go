package pulse_test

import (
	"bytes"
	"math"
	"math/rand/v2"
	"slices"
	"testing"

	"madrigal/api"
	"madrigal/pulse"
	"madrigal/rc"
	"madrigal/renc"
)

// noLengths are lengths that no pulses have.
func noLengths() []int {
	l := []int{0, -16, 1, 8, 15, 17, 24, 31, 33, 463, 465, 479, 481, 488, 496, 512, 960, 1 << 16, -480, -1, 1<<32 + 16, -1<<32 + 16, math.MinInt + 16, math.MaxInt - 15}
	return append(l, far...)
}

// noPulses are lists that may not be.
func noPulses() [][]int64 {
	right := blockOf(4, -9, 12, 7)
	l := [][]int64{nil, {}, {1}, make([]int64, 8), make([]int64, 15), make([]int64, 17), make([]int64, 24), make([]int64, 481), make([]int64, 496), slices.Repeat(right, 31), right[:15]}
	for _, v := range []int64{17, -17, 1 << 32, -1 << 32, math.MinInt64, math.MinInt64 + 1, math.MaxInt64} {
		l = append(l, blockOf(0, v), blockOf(15, v), slices.Concat(right, blockOf(7, v)), slices.Concat(blockOf(7, v), right), slices.Concat(right, blockOf(8, v), right))
	}
	l = append(l, blockOf(0, 9, 1, 8), blockOf(14, -9, 15, 8), append(slices.Repeat([]int64{-1}, 15), 2), slices.Concat(slices.Repeat(right, 29), blockOf(0, 16, 15, 1)))
	return l
}

func mustRefuseReading(t *testing.T, d *rc.Dec, n int) {
	t.Helper()
	tell, bad := d.Tell(), d.Bad()
	if l, x := pulse.Read(d, n); x != api.EARG || l != nil {
		t.Fatalf("P9.1: Read of %d: %d numbers, %d, want EARG", n, len(l), x)
	}
	if d.Tell() != tell || d.Bad() != bad {
		t.Fatalf("P9.1: a refused Read of %d: Tell() %d, was %d", n, d.Tell(), tell)
	}
}

func mustRefuseWriting(t *testing.T, e *renc.Enc, l []int64) {
	t.Helper()
	tell := e.Tell()
	if x := pulse.Write(e, l); x != api.EARG {
		t.Fatalf("P9.2: Write(%d): %d, want EARG", l, x)
	}
	if e.Tell() != tell {
		t.Fatalf("P9.2: a refused Write(%d): Tell() %d, was %d", l, e.Tell(), tell)
	}
}

// What is read behind a refusal is as if it had not been asked for.
func TestRefusalsReadNothing(t *testing.T) {
	for _, n := range noLengths() {
		for _, size := range []int{0, 1, 2, 90} {
			b := drawn(uint32(size+5), size)
			d, plain := rc.New(b), rc.New(b)
			mustRefuseReading(t, d, n)
			for _, m := range []int{16, 80, 16, 32} {
				l, _ := pulse.Read(d, m)
				want, _ := pulse.Read(plain, m)
				if !slices.Equal(l, want) || len(l) != m {
					t.Fatalf("P9.1: behind a refused Read of %d: %d, want %d", n, l, want)
				}
				mustRefuseReading(t, d, n)
				if x, y := d.Bits(3), plain.Bits(3); x != y || d.Tell() != plain.Tell() {
					t.Fatalf("P9.1: behind a refused Read of %d: %d, want %d", n, x, y)
				}
			}
		}
	}
}

// What is written behind a refusal is read as if it had not been asked for, and the bytes are the same.
func TestRefusalsWriteNothing(t *testing.T) {
	r := rand.New(rand.NewPCG(9, 7))
	for _, wrong := range noPulses() {
		w, plain := newWriting(), newWriting()
		mustRefuseWriting(t, w.e, wrong)
		for range 4 {
			for _, v := range []told{drawnOther(r), drawnPulses(r, 1+r.IntN(5)), drawnOther(r)} {
				w.put(t, v)
				plain.put(t, v)
				mustRefuseWriting(t, w.e, wrong)
			}
		}
		for _, n := range []int{w.least(), w.least() + 2, api.MaxFrame} {
			b, x := w.e.Done(n)
			c, y := plain.e.Done(n)
			if x != api.OK || y != api.OK || !bytes.Equal(b, c) {
				t.Fatalf("P9.2: behind a refused Write(%d): %x, want %x", wrong, b, c)
			}
		}
		w.back(t, w.least())
	}
}

// One reader, or writer, knows nothing of another.
func TestCallsTellNothingToEachOther(t *testing.T) {
	r := rand.New(rand.NewPCG(9, 8))
	a, b := newWriting(), newWriting()
	for range 15 {
		a.put(t, drawnPulses(r, 5))
		b.put(t, drawnPulses(r, 1))
		b.put(t, drawnOther(r))
	}
	a.back(t, a.least())
	b.back(t, b.least())
}

// guarded is a list with spare room behind it, which nobody may write to.
func guarded(l []int64) []int64 {
	return append(slices.Clip(slices.Clone(l)), slices.Repeat([]int64{77}, 80)...)[:len(l)]
}

// untouched tells whether a guarded list and its spare room are as they were.
func untouched(l, was []int64) bool {
	for _, v := range l[len(l):cap(l)][:80] {
		if v != 77 {
			return false
		}
	}
	return slices.Equal(l, was)
}

func TestListsThatAreHandedInStay(t *testing.T) {
	r := rand.New(rand.NewPCG(9, 9))
	lists := append(noPulses(), edgeBlocks()...)
	for n := range 30 {
		lists = append(lists, drawnPulses(r, n+1).l)
	}
	for _, l := range lists {
		g := guarded(l)
		pulse.Good(g)
		pulse.Write(renc.New(), g)
		for _, most := range []int{-1, 0, 1, 5, 15, 16, 17} {
			pulse.Fewer(g, most)
		}
		if !untouched(g, l) {
			t.Fatalf("R4: %d is changed to %d", l, g)
		}
	}
}

// fill writes over a list and all its spare room.
func fill(l []int64, v int64) {
	l = l[:cap(l)]
	for i := range l {
		l[i] = v
	}
}

// isNew holds three answers of one call against each other, with all of the first two written over, spare room too.
func isNew(t *testing.T, what string, call func() []int64) {
	t.Helper()
	first, second := call(), call()
	was := slices.Clone(first)
	if len(was) == 0 {
		t.Errorf("R4: %s answers nothing", what)
	}
	fill(first, 991)
	if !slices.Equal(second, was) {
		t.Errorf("R4: %s: an answer shares memory with the one ahead", what)
	}
	fill(second, 992)
	if slices.ContainsFunc(first[:cap(first)], func(v int64) bool { return v != 991 }) {
		t.Errorf("R4: %s: an answer shares spare room with the one behind", what)
	}
	if !slices.Equal(call(), was) {
		t.Errorf("R4: %s: an answer shares memory with what is kept", what)
	}
}

func TestAnswersAreNew(t *testing.T) {
	b := drawn(3, 300)
	for _, n := range []int{16, 32, 480} {
		isNew(t, "Read", func() []int64 {
			l, _ := pulse.Read(rc.New(b), n)
			return l
		})
		// Two lists of one reader, too.
		d := rc.New(b)
		l, _ := pulse.Read(d, n)
		was := slices.Clone(l)
		next, _ := pulse.Read(d, n)
		fill(next, 99)
		if !slices.Equal(l, was) {
			t.Errorf("R4: Read: a list shares memory with the one behind")
		}
	}
	for _, n := range []int{1, 15, 16, 17, 480} {
		for _, most := range []int{0, 3, 16} {
			given := slices.Repeat([]int64{1, 0, -1, 0, 0, 2, 0, 0}, 60)[:n]
			g := guarded(given)
			isNew(t, "Fewer", func() []int64 { return pulse.Fewer(g, most) })
			if !untouched(g, given) {
				t.Errorf("R4: an answer of Fewer shares memory with what was handed in")
			}
		}
	}
}
