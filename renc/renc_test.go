package renc_test

import (
	"bytes"
	"encoding/binary"
	"math"
	"math/rand/v2"
	"runtime"
	"slices"
	"testing"

	"madrigal/api"
	"madrigal/rc"
	"madrigal/renc"
	"madrigal/tabs"
)

func TestExamples(t *testing.T) {
	e := renc.New()
	if x := e.Symbol(1, tabs.Icdf(0)); x != api.OK {
		t.Errorf("Symbol(1, Icdf(0)): %d", x)
	}
	if x := e.Bits(5, 3); x != api.OK {
		t.Errorf("Bits(5, 3): %d", x)
	}
	b, x := e.Done(4)
	d := rc.New(b)
	if s, v := d.Symbol(tabs.Icdf(0)), d.Bits(3); x != api.OK || len(b) != 4 || s != 1 || v != 5 {
		t.Errorf("Done(4): %d bytes, %d: %d and %d are read", len(b), x, s, v)
	}
}

func TestNothingWritten(t *testing.T) {
	w := &run{e: renc.New()}
	if v := w.e.Tell(); v != 1 {
		t.Errorf("P4.2: Tell() of nothing: %d", v)
	}
	w.backAll(t)
	if b, x := w.e.Done(0); x != api.ELIMIT || len(b) != 0 {
		t.Errorf("P4.2: Done(0) of nothing: %d bytes, %d", len(b), x)
	}
}

// What takes no bits is written all the same.
func TestWhatTakesNoBits(t *testing.T) {
	w := &run{e: renc.New()}
	for range 3000 {
		w.put(t, call{what: "Symbol", t: []int{0}})
		w.put(t, call{what: "Bits"})
		w.put(t, call{what: "Uint", a: 1})
		if v := w.e.Tell(); v != 1 {
			t.Fatalf("P4.1: Tell() behind what takes no bits: %d", v)
		}
	}
	w.back(t, 1)
	w.put(t, call{what: "Uint", v: 77, a: 100})
	w.backAll(t)
}

func TestDoneOfWrongSizes(t *testing.T) {
	r := rand.New(rand.NewPCG(4, 1))
	for _, calls := range []int{0, 1, 50, 100000} {
		e := drawnRun(t, r, calls).e
		for _, n := range []int{math.MinInt, -1 << 32, -1276, -8, -1, api.MaxFrame + 1, api.MaxFrame + 2, 1 << 16, 1<<32 + 500, math.MaxInt} {
			if b, x := e.Done(n); x != api.EARG || len(b) != 0 {
				t.Errorf("P4.2: Done(%d): %d bytes, %d", n, len(b), x)
			}
		}
		if b, x := e.Done(0); x != api.ELIMIT || len(b) != 0 {
			t.Errorf("P4.2: Done(0): %d bytes, %d", len(b), x)
		}
	}
}

// One more bit, and there is one byte less to choose from.
func TestDoneAtEachBit(t *testing.T) {
	plain, ranged := renc.New(), renc.New()
	for tell := 1; tell <= 8*api.MaxFrame+20; tell++ {
		for _, e := range []*renc.Enc{plain, ranged} {
			if v := e.Tell(); v != tell {
				t.Fatalf("P4.2: Tell() behind %d bits: %d", tell-1, v)
			}
			for _, n := range []int{0, (tell - 1) / 8, (tell + 7) / 8, api.MaxFrame} {
				want := api.OK
				switch {
				case n > api.MaxFrame:
					want = api.EARG
				case tell > 8*n:
					want = api.ELIMIT
				}
				b, x := e.Done(n)
				if x != want || x != api.OK && len(b) != 0 || x == api.OK && len(b) != n {
					t.Fatalf("P4.2: Done(%d) with Tell() %d: %d bytes, %d, want %d", n, tell, len(b), x, want)
				}
			}
		}
		if x := plain.Bits(tell%2, 1); x != api.OK {
			t.Fatalf("P4.1: Bits: %d", x)
		}
		if x := ranged.Uint(tell%2, 2); x != api.OK {
			t.Fatalf("P4.1: Uint: %d", x)
		}
	}
}

func TestLongRunsAreReadBack(t *testing.T) {
	r := rand.New(rand.NewPCG(4, 2))
	for n := range 60 {
		w := &run{e: renc.New()}
		for range n * 17 {
			was := w.copied()
			if w.put(t, drawn(r)); w.least() > api.MaxFrame {
				w = was
				break
			}
		}
		w.backAll(t)
	}
}

// Behind each call all must be read, out of the fewest bytes.
func TestRunsAreReadBackOnTheWay(t *testing.T) {
	r := rand.New(rand.NewPCG(4, 3))
	for range 300 {
		w := &run{e: renc.New()}
		for range 50 {
			w.put(t, drawn(r))
			w.tooFew(t)
			w.back(t, w.least())
			w.back(t, w.least()+1)
		}
	}
}

// Each call alone many times over, so that one kind's faults don't hide behind another's.
func TestRunsOfOneKind(t *testing.T) {
	r := rand.New(rand.NewPCG(4, 4))
	for _, what := range []string{"Symbol", "Flag", "Bits", "Uint", "Laplace"} {
		for range 40 {
			w := &run{e: renc.New()}
			for len(w.calls) < 150 {
				if c := drawn(r); c.what == what {
					w.put(t, c)
				}
			}
			w.tooFew(t)
			for _, n := range []int{w.least(), w.least() + 1, w.least() + 5, api.MaxFrame} {
				w.back(t, n)
			}
		}
	}
}

// Bytes of long runs of 0 and of 255 are where a carry is near, or comes.
func TestWhatIsReadIsWritten(t *testing.T) {
	r := rand.New(rand.NewPCG(4, 5))
	for range 1500 {
		b := make([]byte, 1+r.IntN(60))
		kind, v := r.IntN(4), byte(0)
		for i := range b {
			if r.IntN(6) == 0 {
				v = ^v
			}
			if b[i] = v; kind == 0 || r.IntN(12) == 0 {
				b[i] = byte(r.IntN(256))
			}
		}
		w := asRead(t, r, b)
		w.tooFew(t)
		w.back(t, w.least())
		w.back(t, len(b))
	}
}

// The range goes on holding the point between 127, 255, 255, .. and 128, 0, 0, .., till the last call settles on which side of
// it the bytes are: so a carry is due, or not, through all bytes that were written.
func TestCarryThroughManyBytes(t *testing.T) {
	r := rand.New(rand.NewPCG(4, 6))
	for _, head := range [][]byte{{128}, {1}, {0, 128}, {200, 77, 1}, {64, 0, 0, 1}} {
		for _, size := range []int{8, 20, 100, 400, 1200} {
			b := append(slices.Clone(head), make([]byte, size)...)
			w := asRead(t, r, b)
			for _, end := range [][]call{
				{},
				{{what: "Uint", v: 255, a: 256}}, {{what: "Uint", v: 0, a: 256}},
				{{what: "Uint", v: 128, a: 256}, {what: "Uint", v: 9, a: 200}},
				{{what: "Flag", v: 1, a: 15}}, {{what: "Flag", v: 0, a: 1}, {what: "Flag", v: 1, a: 9}, {what: "Bits", v: 511, a: 9}},
				{{what: "Uint", v: 255, a: 256}, {what: "Uint", v: 0, a: 1 << 24}, {what: "Uint", v: 1<<24 - 1, a: 1 << 24}},
			} {
				c := w.copied()
				for _, one := range end {
					c.put(t, one)
				}
				c.tooFew(t)
				c.back(t, c.least())
				c.back(t, c.least()+1)
			}
			w.back(t, w.least())
		}
	}
}

// The bytes that begin the two ways leave no other choice: 127 and 255s below the point, 128 and 0s above it.
func TestCarryIsSeenInTheBytes(t *testing.T) {
	for n := 1; n <= 1200; n += 1 + n/10 {
		d := rc.New(append([]byte{128}, make([]byte, api.MaxFrame-1)...))
		w := &run{e: renc.New()}
		w.put(t, call{what: "Uint", v: d.Uint(3), a: 3})
		for range n {
			w.put(t, call{what: "Uint", v: d.Uint(255), a: 255})
		}
		for _, c := range []struct {
			last        int
			first, then byte
		}{{0, 127, 255}, {254, 128, 0}} {
			side := w.copied()
			for range 6 {
				side.put(t, call{what: "Uint", v: c.last, a: 255})
			}
			side.tooFew(t)
			side.back(t, side.least())
			b, _ := side.e.Done(side.least())
			// The last byte but one of what left the point open is settled too, whatever the rounding of each range took.
			if want := append([]byte{c.first}, all(max(w.e.Tell()/8-2, 0), c.then)...); !bytes.HasPrefix(b, want) {
				t.Fatalf("P4.2: behind %d numbers that leave the point open, and %d: %x", n, c.last, b)
			}
		}
	}
}

// Where all bits that Tell() counts are just as many as the bytes have, those of the beginning and of the end lie side by side.
func TestBitsMeetInOneByte(t *testing.T) {
	for front := range 40 {
		for back := range 40 {
			for pattern := range 4 {
				w := &run{e: renc.New()}
				for i := range front {
					w.put(t, call{what: "Uint", v: pattern % 2 * (1 - i%2*(pattern/2)), a: 2})
				}
				for i := range back {
					w.put(t, call{what: "Bits", v: 1 - pattern/2*(i%2), a: 1})
				}
				if v := w.e.Tell(); v != 1+front+back {
					t.Fatalf("P4.2: Tell() behind %d and %d bits: %d", front, back, v)
				}
				w.tooFew(t)
				w.back(t, w.least())
			}
		}
	}
}

// Any run is filled up with bits from the end, all set, till no bit is left.
func TestNoBitIsLeft(t *testing.T) {
	r := rand.New(rand.NewPCG(4, 7))
	for range 2000 {
		w := drawnRun(t, r, r.IntN(40))
		n := -w.e.Tell() & 7
		w.put(t, call{what: "Bits", v: 1<<n - 1, a: n})
		if w.e.Tell() != 8*w.least() {
			t.Fatalf("P4.2: Tell() %d behind filling up", w.e.Tell())
		}
		w.tooFew(t)
		w.back(t, w.least())
	}
}

// edges are calls at what may just be written, and at what may not.
func edges() (taken, refused []call) {
	good := func(c ...call) { taken = append(taken, c...) }
	wrong := func(c ...call) { refused = append(refused, c...) }
	for _, t := range [][]int{
		nil, {}, {1}, {5}, {-1}, {256}, {256, 0}, {300, 200, 0}, {0, 0}, {5, 5, 0}, {3, 5, 0}, {9, 4}, {9, 0, -1},
		{math.MaxInt, 0}, {0, math.MinInt}, falling(257), falling(256)[:255], append(falling(256), 0), make([]int, 1000),
	} {
		wrong(call{what: "Symbol", v: 0, t: t}, call{what: "Symbol", v: 1, t: t}, call{what: "Symbol", v: -1, t: t}, call{what: "Symbol", v: len(t), t: t})
	}
	for _, t := range tables() {
		good(call{what: "Symbol", v: 0, t: t}, call{what: "Symbol", v: len(t) - 1, t: t})
		for _, v := range []int{math.MinInt, -256, -2, -1, len(t), len(t) + 1, 257, 1 << 32, math.MaxInt} {
			wrong(call{what: "Symbol", v: v, t: t})
		}
	}
	for v := range 2 {
		good(call{what: "Flag", v: v, a: 1}, call{what: "Flag", v: v, a: 2}, call{what: "Flag", v: v, a: 14}, call{what: "Flag", v: v, a: 15})
		for _, n := range []int{math.MinInt, -256, -15, -1, 0, 16, 17, 32, 64, 65, 1<<32 + 1, math.MaxInt} {
			wrong(call{what: "Flag", v: v, a: n})
		}
	}
	for n := range 25 {
		good(call{what: "Bits", v: 0, a: n}, call{what: "Bits", v: 1<<n - 1, a: n}, call{what: "Bits", v: 1 << n / 2, a: n})
		for _, v := range []int{math.MinInt, -1 << 32, -2, -1, 1 << n, 1<<n + 1, 1 << 25, 1 << 32, math.MaxInt} {
			wrong(call{what: "Bits", v: v, a: n})
		}
	}
	for _, n := range []int{math.MinInt, -64, -24, -2, -1, 25, 26, 32, 63, 64, 65, 1 << 32, math.MaxInt} {
		wrong(call{what: "Bits", v: 0, a: n}, call{what: "Bits", v: 1, a: n}, call{what: "Bits", v: -1, a: n})
	}
	for _, ft := range []int{1, 2, 3, 255, 256, 257, 258, 511, 512, 513, 1 << 16, 1<<16 + 1, 1 << 24, 1<<32 - 2, 1<<32 - 1} {
		good(call{what: "Uint", v: 0, a: ft}, call{what: "Uint", v: ft - 1, a: ft}, call{what: "Uint", v: ft / 2, a: ft})
		for _, v := range []int{math.MinInt, -ft, -2, -1, ft, ft + 1, 1 << 32, math.MaxInt} {
			wrong(call{what: "Uint", v: v, a: ft})
		}
	}
	for _, ft := range []int{math.MinInt, -1 << 32, -300, -2, -1, 0, 1 << 32, 1<<32 + 1, 1<<32 + 2, 1 << 33, math.MaxInt} {
		wrong(call{what: "Uint", v: 0, a: ft}, call{what: "Uint", v: 1, a: ft}, call{what: "Uint", v: -1, a: ft}, call{what: "Uint", v: ft, a: ft}, call{what: "Uint", v: math.MinInt, a: ft})
	}
	for _, v := range []int{math.MinInt, -1000, -1, 0, 1, 1000, math.MaxInt} {
		for _, c := range [][2]int{{256, 0}, {256, 16000}, {28000, 0}, {28000, 16000}, {257, 1}, {27999, 15999}} {
			good(call{"Laplace", v, c[0], c[1], nil})
		}
		for _, fs := range []int{math.MinInt, -12000, -1, 0, 1, 255, 28001, 32736, 32768, 1<<32 + 12000, math.MaxInt} {
			wrong(call{"Laplace", v, fs, 8000, nil}, call{"Laplace", v, fs, 0, nil}, call{"Laplace", v, fs, -1, nil})
		}
		for _, decay := range []int{math.MinInt, -8000, -2, -1, 16001, 16384, 32768, 1<<32 + 8000, math.MaxInt} {
			wrong(call{"Laplace", v, 12000, decay, nil}, call{"Laplace", v, 256, decay, nil}, call{"Laplace", v, 28000, decay, nil})
		}
	}
	return taken, refused
}

func TestEdgesAreWritten(t *testing.T) {
	taken, _ := edges()
	r := rand.New(rand.NewPCG(4, 8))
	for _, c := range taken {
		for range 4 {
			w := drawnRun(t, r, r.IntN(6))
			for range 3 {
				w.put(t, c)
			}
			w.tooFew(t)
			w.back(t, w.least())
		}
	}
}

// Each of 256 numbers is told from those beside it.
func TestAllOfSmallNumbers(t *testing.T) {
	for _, l := range tables() {
		for v := range l {
			w := &run{e: renc.New()}
			w.put(t, call{what: "Symbol", v: v, t: l})
			w.back(t, w.least())
		}
	}
	for ft := 1; ft <= 600; ft++ {
		for v := range ft {
			w := &run{e: renc.New()}
			w.put(t, call{what: "Uint", v: v, a: ft})
			w.back(t, w.least())
		}
	}
}

// One writer is asked all that is refused between any two calls, its twin is not.
func TestRefusedCallsChangeNothing(t *testing.T) {
	_, refused := edges()
	r := rand.New(rand.NewPCG(4, 9))
	for _, calls := range []int{0, 1, 2, 3, 5, 30, 4000} {
		w := drawnRun(t, r, calls)
		twin := w.copied()
		for range 6 {
			for _, c := range refused {
				v, x := write(w.e, c)
				if x != api.EARG {
					t.Fatalf("P4.1: %s: %d", c, x)
				}
				if c.what == "Laplace" && v != 0 {
					t.Fatalf("R2: %s is refused, and tells %d", c, v)
				}
				if w.e.Tell() != twin.e.Tell() {
					t.Fatalf("P4.1: %s is refused, and makes Tell() %d of %d", c, w.e.Tell(), twin.e.Tell())
				}
				same(t, "R3: behind "+c.String(), w.e, twin.e)
			}
			c := drawn(r)
			w.put(t, c)
			twin.put(t, c)
			same(t, "R3: behind refused calls and "+c.String(), w.e, twin.e)
		}
	}
}

// same holds two writers that were told the same against each other.
func same(t *testing.T, what string, a, b *renc.Enc) {
	t.Helper()
	if a.Tell() != b.Tell() {
		t.Fatalf("%s: Tell() %d and %d", what, a.Tell(), b.Tell())
	}
	n := min((a.Tell()+7)/8, api.MaxFrame)
	p, x := a.Done(n)
	q, y := b.Done(n)
	if x != y || !bytes.Equal(p, q) {
		t.Fatalf("%s: Done(%d): %x, %d and %x, %d", what, n, p, x, q, y)
	}
}

func TestRefusedDoneChangesNothing(t *testing.T) {
	r := rand.New(rand.NewPCG(4, 10))
	w := &run{e: renc.New()}
	twin := w.copied()
	for range 100 {
		c := drawn(r)
		w.put(t, c)
		twin.put(t, c)
		for _, n := range []int{-1, 0, w.least() - 1, api.MaxFrame + 1, math.MinInt, math.MaxInt} {
			w.e.Done(n)
		}
		same(t, "R3: behind refused Done", w.e, twin.e)
	}
}

// readable are the numbers that Laplace reads: a stream's first 15 bits choose the part of 32768.
func readable(fs, decay int) map[int]int {
	parts := map[int]int{}
	for f := range 32768 {
		parts[rc.New(binary.BigEndian.AppendUint16(nil, uint16(2*f))).Laplace(fs, decay)]++
	}
	return parts
}

func TestLaplaceWritesTheNearest(t *testing.T) {
	for _, fs := range []int{256, 257, 258, 5000, 12000, 12001, 27999, 28000} {
		for _, decay := range []int{0, 1, 300, 8000, 12345, 15999, 16000} {
			parts := readable(fs, decay)
			least, most := 0, 0
			for v := range parts {
				least, most = min(least, v), max(most, v)
			}
			if len(parts) != most-least+1 || least > -1 || most < 1 {
				t.Fatalf("P3.3: Laplace(%d, %d) reads %d numbers from %d to %d", fs, decay, len(parts), least, most)
			}
			numbers := []int{math.MinInt, math.MinInt + 1, -1 << 32, -70000, 70000, 1<<32 - 1, 1 << 32, math.MaxInt - 1, math.MaxInt}
			for _, edge := range []int{32767, 32768, 32769, -least, most} {
				for v := edge - 3; v <= edge+3; v++ {
					numbers = append(numbers, v, -v)
				}
			}
			for v := least - 3; v <= most+3; v++ {
				numbers = append(numbers, v)
			}
			for _, v := range numbers {
				w := &run{e: renc.New()}
				got, x := w.e.Copy().Laplace(v, fs, decay)
				if want := min(max(v, least), most); got != want || x != api.OK {
					t.Fatalf("P4.1: Laplace(%d, %d, %d): %d, %d, want %d", v, fs, decay, got, x, want)
				}
				w.put(t, call{"Laplace", v, fs, decay, nil})
				w.put(t, call{what: "Uint", v: 199, a: 251})
				w.back(t, w.least())
			}
		}
	}
}

func TestLaplaceByHand(t *testing.T) {
	for _, c := range []struct{ fs, decay, v, want int }{
		// -1 and 1 have (32480 16384) / 32768 and 1: 16241 parts each; of the 30 that are left each has one.
		{256, 0, 0, 0}, {256, 0, 16, 16}, {256, 0, 17, 16}, {256, 0, math.MaxInt, 16},
		{256, 0, -16, -16}, {256, 0, -17, -16}, {256, 0, math.MinInt, -16},
		// -1 and 1 have (32479 16384) / 32768, down, and 1: 16240 parts each; 31 are left, the last one is -17's.
		{257, 0, 16, 16}, {257, 0, 17, 16}, {257, 0, 18, 16}, {257, 0, -17, -17}, {257, 0, -18, -17}, {257, 0, math.MinInt, -17},
		// -1 and 1 have (4736 384) / 32768, down, and 1: 56 parts each.
		{28000, 16000, 1, 1}, {28000, 16000, -1, -1}, {28000, 16000, 2, 2}, {28000, 16000, -2, -2},
	} {
		if v, x := renc.New().Laplace(c.v, c.fs, c.decay); v != c.want || x != api.OK {
			t.Errorf("P4.1: Laplace(%d, %d, %d): %d, %d, want %d", c.v, c.fs, c.decay, v, x, c.want)
		}
	}
}

// For all fs of a few decays, and all decays of a few fs: what is far off, on either side, is the last that is read.
func TestLaplaceFarOff(t *testing.T) {
	var pairs [][2]int
	for fs := 256; fs <= 28000; fs += 13 {
		for _, decay := range []int{0, 7999, 16000} {
			pairs = append(pairs, [2]int{fs, decay})
		}
	}
	for decay := 0; decay <= 16000; decay += 7 {
		for _, fs := range []int{256, 9001, 28000} {
			pairs = append(pairs, [2]int{fs, decay})
		}
	}
	for _, p := range pairs {
		for _, v := range []int{math.MinInt, math.MaxInt} {
			w := &run{e: renc.New()}
			w.put(t, call{"Laplace", v, p[0], p[1], nil})
			w.back(t, w.least())
			got := w.calls[0].v
			further := got + 1
			if v < 0 {
				further = got - 1
			}
			if got == 0 || got < 0 != (v < 0) {
				t.Fatalf("P4.1: Laplace(%d, %d, %d): %d", v, p[0], p[1], got)
			}
			if next, _ := renc.New().Laplace(further, p[0], p[1]); next != got {
				t.Fatalf("P4.1: Laplace(%d, %d, %d): %d, though %d is told of %d", further, p[0], p[1], next, got, v)
			}
		}
		// All set: the last part of all. It is of the last number on one of the sides.
		last := rc.New(all(4, 255)).Laplace(p[0], p[1])
		if got, _ := renc.New().Laplace(last, p[0], p[1]); got != last {
			t.Fatalf("P4.1: Laplace(%d, %d, %d), the last one that is read: %d", last, p[0], p[1], got)
		}
	}
}

// Done is asked at will of one writer, its twin is not.
func TestDoneChangesNothing(t *testing.T) {
	r := rand.New(rand.NewPCG(4, 11))
	for range 30 {
		w := &run{e: renc.New()}
		twin := w.copied()
		for range 80 {
			for range 3 {
				w.e.Done(w.least() + r.IntN(4))
				w.e.Done(api.MaxFrame)
				w.e.Tell()
				w.e.Copy()
			}
			c := drawn(r)
			w.put(t, c)
			twin.put(t, c)
			if w.e.Tell() != twin.e.Tell() {
				t.Fatalf("P4.2: Tell() behind Done: %d, want %d", w.e.Tell(), twin.e.Tell())
			}
			w.back(t, w.least())
			w.back(t, w.least())
		}
		same(t, "P4.2: behind Done", w.e, twin.e)
	}
}

func TestCopiesGoTheirOwnWays(t *testing.T) {
	r := rand.New(rand.NewPCG(4, 12))
	for range 200 {
		w := drawnRun(t, r, r.IntN(60))
		family := []*run{w, w.copied()}
		family = append(family, family[1].copied())
		for _, c := range family {
			same(t, "P4.2: a copy", c.e, w.e)
		}
		// By turns, so that one would write into another's room.
		for range 30 {
			for _, c := range family {
				c.put(t, drawn(r))
			}
		}
		for _, c := range family {
			c.tooFew(t)
			c.back(t, c.least())
			c.back(t, c.least()+3)
		}
	}
}

// One has a carry that runs through all bytes, the other has none: in either order.
func TestCarryInACopy(t *testing.T) {
	r := rand.New(rand.NewPCG(4, 13))
	for _, order := range [][2]int{{0, 1}, {1, 0}} {
		w := asRead(t, r, append([]byte{128}, make([]byte, 60)...))
		both := []*run{w, w.copied()}
		for _, i := range order {
			for range 8 {
				both[i].put(t, call{what: "Uint", v: 255 * i, a: 256})
			}
		}
		for _, c := range both {
			c.back(t, c.least())
		}
	}
}

func TestAnswersAreNewMemory(t *testing.T) {
	r := rand.New(rand.NewPCG(4, 14))
	for range 50 {
		w := drawnRun(t, r, 40)
		c := w.copied()
		n := w.least() + r.IntN(9)
		first, _ := w.e.Done(n)
		want := slices.Clone(first)
		second, _ := w.e.Done(n)
		third, _ := c.e.Done(n)
		for _, b := range [][]byte{first, third} {
			b = b[:cap(b)]
			for i := range b {
				b[i] ^= 0x5a
			}
		}
		if fourth, x := w.e.Done(n); x != api.OK || !bytes.Equal(second, want) || !bytes.Equal(fourth, want) {
			t.Fatalf("R4: Done's answers share memory: %x, %x, want %x", second, fourth, want)
		}
		w.put(t, call{what: "Bits", v: 1<<24 - 1, a: 24})
		w.put(t, call{what: "Uint", v: 255, a: 256})
		if !bytes.Equal(second, want) {
			t.Fatalf("R4: an answer is changed by what is written behind it")
		}
		w.back(t, w.least())
		c.back(t, n)
	}
}

func TestTablesAreLeftAsTheyAre(t *testing.T) {
	whole := []int{192, 96, 0, 5, 6, 7}
	w := &run{e: renc.New()}
	for v := range 3 {
		if x := w.e.Symbol(v, whole[:3]); x != api.OK {
			t.Fatalf("P4.1: Symbol of a piece of a list: %d", x)
		}
		if x := w.e.Symbol(v, whole[:2]); x != api.EARG {
			t.Fatalf("P4.1: Symbol of a table that is not good: %d", x)
		}
		if !slices.Equal(whole, []int{192, 96, 0, 5, 6, 7}) {
			t.Fatalf("R4: Symbol makes its table %d", whole)
		}
		w.calls = append(w.calls, call{what: "Symbol", v: v, t: tabs.Icdf(0)})
		w.tells = append(w.tells, w.e.Tell())
	}
	w.back(t, w.least())
	table := []int{128, 0}
	w.e.Symbol(1, table)
	table[0] = 1
	w.calls = append(w.calls, call{what: "Symbol", v: 1, t: []int{128, 0}})
	w.tells = append(w.tells, w.e.Tell())
	w.put(t, call{what: "Symbol", v: 1, t: []int{200, 50, 0}})
	w.back(t, w.least())
}

// Writers by turns are as writers one by one.
func TestWritersDontShare(t *testing.T) {
	r := rand.New(rand.NewPCG(4, 15))
	first := drawnRun(t, r, 100)
	second, other := renc.New(), renc.New()
	for _, c := range first.calls {
		write(second, c)
		write(other, drawn(r))
		write(renc.New(), c)
	}
	same(t, "R5: a writer beside others", first.e, second)
}

// Tell goes on, refused is what was refused ahead, and no carry, however late, does harm.
func TestPastTheLimit(t *testing.T) {
	r := rand.New(rand.NewPCG(4, 16))
	for _, b := range [][]byte{all(3000, 255), all(3000, 0), append(all(1, 128), make([]byte, 3000)...), append(all(1300, 255), make([]byte, 2000)...)} {
		w := asRead(t, r, b)
		if w.e.Tell() < 8*2900 {
			t.Fatalf("P4.2: Tell() %d behind writing %d bytes", w.e.Tell(), len(b))
		}
		c := w.e.Copy()
		for _, e := range []*renc.Enc{w.e, c} {
			for range 50 {
				e.Uint(255, 256)
				e.Flag(true, 15)
			}
			for n, want := range map[int]api.Errno{-1: api.EARG, 0: api.ELIMIT, 1000: api.ELIMIT, api.MaxFrame: api.ELIMIT, api.MaxFrame + 1: api.EARG} {
				if b, x := e.Done(n); x != want || len(b) != 0 {
					t.Errorf("P4.2: Done(%d) past the limit: %d bytes, %d", n, len(b), x)
				}
			}
		}
	}
}

// Up to the limit's last byte all is kept, from both ends.
func TestAtTheLimit(t *testing.T) {
	for back := 0; back <= api.MaxFrame; back += 75 {
		w := &run{e: renc.New()}
		for i := range back {
			w.put(t, call{what: "Bits", v: (i*i + 7) % 256, a: 8})
		}
		for i := range api.MaxFrame - back {
			w.put(t, call{what: "Uint", v: (i*i*3 + 250) % 256, a: 256})
			if w.least() == api.MaxFrame {
				break
			}
		}
		for w.e.Tell() < 8*api.MaxFrame {
			w.put(t, call{what: "Bits", v: 1, a: 1})
			if w.e.Tell() == 8*api.MaxFrame {
				break
			}
			w.put(t, call{what: "Uint", v: 1, a: 2})
		}
		if w.e.Tell() > 8*api.MaxFrame {
			continue
		}
		w.tooFew(t)
		w.back(t, api.MaxFrame)
		w.e.Bits(0, 1)
		if b, x := w.e.Done(api.MaxFrame); x != api.ELIMIT || len(b) != 0 {
			t.Errorf("P4.2: Done(MaxFrame) with Tell() %d: %d bytes, %d", w.e.Tell(), len(b), x)
		}
	}
}

// What Done can never answer again is not kept.
func TestNoMoreIsKeptThanIsNeeded(t *testing.T) {
	e := renc.New()
	var was, is runtime.MemStats
	runtime.ReadMemStats(&was)
	for range 1 << 20 {
		e.Bits(1<<24-1, 24)
		e.Uint(200, 256)
	}
	runtime.ReadMemStats(&is)
	if n := is.TotalAlloc - was.TotalAlloc; n > 1<<20 {
		t.Errorf("P4.2: %d bytes are taken for a frame of at most %d", n, api.MaxFrame)
	}
	if v := e.Tell(); v != 1+32<<20 {
		t.Errorf("P4.2: Tell() behind 2^20 times 32 bits: %d", v)
	}
}
