package synth_test

import (
	"encoding/binary"
	"hash/fnv"
	"math"
	"slices"
	"testing"

	"madrigal/api"
	"madrigal/synth"
)

// loudest is the greatest r that a pulse alone makes.
const loudest = 16 << 18

func repeat(v int64, n int) []int64 { return slices.Repeat([]int64{v}, n) }

// only is n numbers, v at k and noughts else.
func only(v int64, k, n int) []int64 {
	l := make([]int64, n)
	l[k] = v
	return l
}

func mustRun(t *testing.T, v *synth.Voice, p synth.Part, want []int64) {
	t.Helper()
	if !synth.Good(p) {
		t.Fatalf("P10.1: Good(%v): false", p)
	}
	if o, e := v.Run(p); e != api.OK || !slices.Equal(o, want) {
		t.Fatalf("P10.1: Run(%v): %d, %d, want %d", p, o, e, want)
	}
}

func TestExamples(t *testing.T) {
	mustRun(t, synth.New(), synth.Part{Pulses: []int64{1, 0, 0}, Loud: 16, Filter: []int64{2048}}, []int64{16, 8, 4})
	mustPcm(t, []int64{16, 24, -24}, []int64{1, 2, -1})
}

// Each row is the parts of one voice, one behind the other, with what comes out, by hand.
func TestRunByHand(t *testing.T) {
	type step struct {
		p    synth.Part
		want []int64
	}
	for _, row := range [][]step{
		// Pulses alone.
		{{synth.Part{Pulses: []int64{3}, Loud: 5}, []int64{15}}, {synth.Part{Pulses: []int64{-2, 0, 16}, Loud: 7}, []int64{-14, 0, 112}}},
		{{synth.Part{Pulses: []int64{16, -16, 5}, Loud: 0}, []int64{0, 0, 0}}},
		{{synth.Part{Pulses: []int64{16, -16, 1, -1}, Loud: 1 << 18}, []int64{4194304, -4194304, 262144, -262144}}},
		// A filter goes on with what came out of the part ahead, whatever filter that one had.
		{
			{synth.Part{Pulses: []int64{1}, Loud: 100, Filter: []int64{4096}}, []int64{100}},
			{synth.Part{Pulses: []int64{0, 0}, Loud: 100, Filter: []int64{4096, -2048}}, []int64{100, 50}},
			{synth.Part{Pulses: []int64{0, 1}, Loud: 3}, []int64{0, 3}},
			{synth.Part{Pulses: []int64{0, 0}, Loud: 9, Filter: []int64{0, 0, 4096}}, []int64{50, 0}},
		},
		// What repeats is what drove the filter, not what came out.
		{
			{synth.Part{Pulses: []int64{1, 0, 0}, Loud: 1000, Filter: []int64{2048}}, []int64{1000, 500, 250}},
			{synth.Part{Pulses: []int64{0, 0, 0}, Loud: 1000, Lag: 5, Taps: [5]int64{128}}, []int64{1000, 0, 0}},
		},
		// The taps of a lag, from the newest one reached to the eldest.
		{{synth.Part{Pulses: only(1, 0, 9), Loud: 128, Lag: 6, Taps: [5]int64{5, -6, 7, -8, 9}}, []int64{128, 0, 0, 0, 5, -6, 7, -8, 9}}},
		// What comes again comes again, and is added to a pulse.
		{{synth.Part{Pulses: []int64{1, 0, 0, 1, 0, 0, 0}, Loud: 16, Lag: 5, Taps: [5]int64{64, 0, 128, 0, 0}}, []int64{16, 0, 0, 24, 0, 16, 12}}},
		// Of a tap each product is rounded by itself, halves up.
		{
			{synth.Part{Pulses: []int64{1, 1, 1, 1, 1}, Loud: 1}, repeat(1, 5)},
			{synth.Part{Pulses: []int64{0}, Loud: 1, Lag: 3, Taps: [5]int64{64, 64, 64, 64, 64}}, []int64{5}},
		},
		{
			{synth.Part{Pulses: []int64{-1, -1, -1, -1, -1}, Loud: 1}, repeat(-1, 5)},
			{synth.Part{Pulses: []int64{0}, Loud: 1, Lag: 3, Taps: [5]int64{64, 64, 64, 64, 64}}, []int64{0}},
		},
		{{synth.Part{Pulses: []int64{1, 0, 0, 0, 0, 0}, Loud: 1, Lag: 3, Taps: [5]int64{0, 63, 64, -64, -65}}, []int64{1, 0, 0, 1, 0, -1}}},
		// Of a filter too.
		{
			{synth.Part{Pulses: []int64{1, 1, 1}, Loud: 1}, repeat(1, 3)},
			{synth.Part{Pulses: []int64{0}, Loud: 1, Filter: []int64{2048, 2048, 2048}}, []int64{3}},
		},
		{
			{synth.Part{Pulses: []int64{-1, -1, -1}, Loud: 1}, repeat(-1, 3)},
			{synth.Part{Pulses: []int64{0}, Loud: 1, Filter: []int64{2048, 2048, 2048}}, []int64{0}},
		},
		{{synth.Part{Pulses: []int64{1, 0}, Loud: 1, Filter: []int64{2047}}, []int64{1, 0}}, {synth.Part{Pulses: []int64{-1, 0}, Loud: 1, Filter: []int64{2049}}, []int64{-1, -1}}},
	} {
		v := synth.New()
		for _, s := range row {
			mustRun(t, v, s.p, s.want)
		}
	}
}

// Each lag and each of its taps: what drove the filter once comes again by one step of so many samples, and by no other, in this run and in those behind.
func TestEveryLagAndTap(t *testing.T) {
	for lag := 3; lag <= 318; lag++ {
		for j := range 5 {
			want := make([]int64, 700)
			for i := 0; i < len(want); i += lag - 2 + j {
				want[i] = 900
			}
			p := synth.Part{Loud: 900, Lag: lag}
			p.Taps[j] = 128
			v := synth.New()
			for _, n := range []int{1, 4, 320, 1, 374} {
				p.Pulses = make([]int64, n)
				if len(want) == 700 {
					p.Pulses[0] = 1
				}
				mustRun(t, v, p, want[:n])
				want = want[n:]
			}
		}
	}
}

// The eldest sample that a lag can reach stands there yet, the next one does not.
func TestFarthestLag(t *testing.T) {
	for _, n := range []int{1, 2, 160, 318, 319, 320, 321, 480} {
		v := synth.New()
		mustRun(t, v, synth.Part{Pulses: only(1, 0, n), Loud: 128}, only(128, 0, n))
		// The sample stands n ahead of the next one; Lag 318 reaches from 316 to 320 ahead.
		want := make([]int64, 6)
		for i := range want {
			if d := n + i - 316; d >= 0 && d < 5 {
				want[i] = int64(d + 1)
			}
		}
		mustRun(t, v, synth.Part{Pulses: make([]int64, 6), Loud: 128, Lag: 318, Taps: [5]int64{1, 2, 3, 4, 5}}, want)
	}
}

// Each number of a filter: what came out once comes out again so many samples behind.
func TestEveryNumberOfFilter(t *testing.T) {
	for size := 1; size <= 32; size++ {
		for k := range size {
			want := make([]int64, 200)
			for i := 0; i < len(want); i += k + 1 {
				want[i] = 77
			}
			v := synth.New()
			p := synth.Part{Pulses: []int64{1}, Loud: 77, Filter: only(4096, k, size)}
			mustRun(t, v, p, want[:1])
			p.Pulses = make([]int64, 40)
			mustRun(t, v, p, want[1:41])
			p.Pulses = make([]int64, 159)
			mustRun(t, v, p, want[41:])
		}
	}
}

// The last 32 that came out are there for the longest filter, and no more of them.
func TestFarthestOut(t *testing.T) {
	for n := 1; n <= 40; n++ {
		v := synth.New()
		mustRun(t, v, synth.Part{Pulses: only(1, 0, n), Loud: 4096}, only(4096, 0, n))
		filter := make([]int64, 32)
		want := int64(0)
		for k := range filter {
			filter[k] = int64(k + 1)
		}
		if n <= 32 {
			want = int64(n)
		}
		mustRun(t, v, synth.Part{Pulses: []int64{0}, Loud: 1, Filter: filter}, []int64{want})
	}
}

// Behind the first sample stand noughts: for the greatest lag and the longest filter, too.
func TestBehindTheFirstSample(t *testing.T) {
	for _, lag := range []int{0, 3, 4, 100, 317, 318} {
		for _, size := range []int{0, 1, 31, 32} {
			p := synth.Part{Pulses: []int64{-7}, Loud: 1 << 18, Lag: lag, Taps: [5]int64{128, 128, 128, 128, 128}, Filter: repeat(1<<17, size)}
			v := synth.New()
			mustRun(t, v, p, []int64{-7 << 18})
			v.Reset()
			mustRun(t, v, p, []int64{-7 << 18})
		}
	}
}

func TestTapsDoNothingWithoutLag(t *testing.T) {
	a, b := synth.New(), synth.New()
	p := synth.Part{Pulses: []int64{3, 0, 0, -5, 16, 0, 0, 0, 1, 0}, Loud: 5000, Filter: []int64{3000, -1000}}
	q := p
	q.Taps = [5]int64{128, -128, 7, 128, -128}
	for range 40 {
		l, _ := a.Run(p)
		mustRun(t, b, q, l)
		if !a.Same(b) {
			t.Fatalf("P10.1: taps without a lag are kept")
		}
	}
}

// filled is a voice whose last five r and o are the same great number.
func filled(v int64) *synth.Voice {
	f := synth.New()
	f.Run(synth.Part{Pulses: repeat(v, 5), Loud: 1 << 18})
	return f
}

// r is kept within 2^24: by itself, not only where it comes out.
func TestDrivenIsKept(t *testing.T) {
	again := func(pulse, loud int64) synth.Part {
		return synth.Part{Pulses: []int64{pulse}, Loud: loud, Lag: 3, Taps: [5]int64{128}}
	}
	for _, sign := range []int64{1, -1} {
		for _, c := range []struct{ pulse, loud, want int64 }{
			{0, 1, 1 << 24}, {1, 1, 1 << 24}, {2, 1, 1 << 24}, {-1, 1, 1<<24 - 1}, {-2, 1, 1<<24 - 2}, {16, 1 << 18, 1 << 24}, {-16, 1 << 18, 3 << 22},
		} {
			p := synth.Part{Pulses: []int64{sign * c.pulse}, Loud: c.loud, Lag: 3, Taps: [5]int64{128, 128, 128, 128}}
			mustRun(t, filled(16*sign), p, []int64{sign * c.want})
			// What came out ahead is taken away: what is too much would show.
			p.Filter = []int64{-4096}
			v := filled(16 * sign)
			mustRun(t, v, p, []int64{sign * (c.want - loudest)})
			mustRun(t, v, again(0, 0), []int64{sign * c.want})
			mustRun(t, v, again(-sign, 1000), []int64{sign * (c.want - 1000)})
		}
		v := filled(16 * sign)
		p := synth.Part{Pulses: repeat(16*sign, 9), Loud: 1 << 18, Lag: 3, Taps: [5]int64{128, 128, 128, 128, 128}}
		mustRun(t, v, p, repeat(sign<<24, 9))
		mustRun(t, v, again(-16*sign, 1<<18), []int64{sign * 3 << 22})
	}
}

// What came out is kept within 2^24.
func TestOutIsKept(t *testing.T) {
	for _, sign := range []int64{1, -1} {
		for _, c := range []struct{ pulse, want int64 }{{0, 1 << 24}, {1, 1 << 24}, {2, 1 << 24}, {-1, 1<<24 - 1}, {-2, 1<<24 - 2}} {
			v := filled(16 * sign)
			p := synth.Part{Pulses: []int64{sign * c.pulse}, Loud: 1, Filter: []int64{4 * 4096}}
			mustRun(t, v, p, []int64{sign * c.want})
			p = synth.Part{Pulses: []int64{0}, Filter: []int64{-4096}}
			mustRun(t, v, p, []int64{-sign * c.want})
			p = synth.Part{Pulses: []int64{0}, Filter: []int64{0, 2048}}
			mustRun(t, v, p, []int64{floored(sign*c.want+1, 2)})
			// Of r, which was small, nothing is too great.
			p = synth.Part{Pulses: []int64{0}, Lag: 5, Taps: [5]int64{128}}
			mustRun(t, v, p, []int64{sign * c.pulse})
		}
		p := synth.Part{Pulses: repeat(16*sign, 40), Loud: 1 << 18, Filter: repeat(1<<17, 32)}
		mustRun(t, synth.New(), p, append([]int64{sign * loudest}, repeat(sign<<24, 39)...))
		// With the least numbers it turns each time; once the first one is forgotten, those that are kept come to nought.
		p.Pulses, p.Filter = p.Pulses[:34], repeat(-1<<17, 32)
		mustRun(t, synth.New(), p, slices.Concat([]int64{sign * loudest}, slices.Repeat([]int64{-sign << 24, sign << 24}, 16), []int64{sign * loudest}))
	}
}

func TestSilence(t *testing.T) {
	v := synth.New()
	for _, n := range []int{1, 2, 79, 320, 480} {
		for _, lag := range []int{0, 3, 160, 318} {
			for _, a := range []int64{-1 << 17, -4096, 0, 2048, 1 << 17} {
				p := synth.Part{Pulses: make([]int64, n), Loud: 1 << 18, Lag: lag, Taps: [5]int64{128, -128, 64, 1, 128}, Filter: repeat(a, 32)}
				mustRun(t, v, p, make([]int64, n))
				if !v.Same(synth.New()) {
					t.Fatalf("P10.3: no pulses and noughts are not silence")
				}
			}
		}
	}
	// Pulses of no loudness are silent as well; and so is a voice that was loud, behind Reset.
	mustRun(t, v, synth.Part{Pulses: repeat(-16, 50), Lag: 3, Taps: [5]int64{128, 128}, Filter: repeat(9999, 32)}, make([]int64, 50))
	v = filled(16)
	v.Reset()
	mustRun(t, v, synth.Part{Pulses: make([]int64, 480), Loud: 5, Lag: 3, Taps: [5]int64{128, 128}, Filter: repeat(9999, 32)}, make([]int64, 480))
}

func mustPcm(t *testing.T, l, want []int64) {
	t.Helper()
	if pcm := synth.Pcm(l); !slices.Equal(pcm, want) {
		t.Errorf("P10.2: Pcm(%d): %d, want %d", l, pcm, want)
	}
}

func TestPcm(t *testing.T) {
	mustPcm(t, nil, nil)
	mustPcm(t, []int64{}, nil)
	for _, c := range [][2]int64{
		{0, 0}, {1, 0}, {-1, 0}, {7, 0}, {8, 1}, {9, 1}, {-7, 0}, {-8, 0}, {-9, -1}, {16, 1}, {-16, -1}, {23, 1}, {24, 2}, {-23, -1}, {-24, -1}, {-25, -2},
		{524263, 32766}, {524264, 32767}, {524272, 32767}, {524279, 32767}, {524280, 32767}, {524288, 32767},
		{-524265, -32767}, {-524280, -32767}, {-524281, -32768}, {-524288, -32768}, {-524296, -32768}, {-524297, -32768}, {-524304, -32768},
		{1 << 24, 32767}, {-1 << 24, -32768}, {1<<31 - 1, 32767}, {1 << 31, 32767}, {1<<31 + 1, 32767}, {-1 << 31, -32768}, {-1<<31 - 1, -32768},
		{1 << 32, 32767}, {-1 << 32, -32768}, {1<<32 + 16, 32767}, {1<<36 - 16, 32767}, {math.MaxInt64, 32767}, {math.MaxInt64 - 7, 32767}, {math.MinInt64, -32768}, {math.MinInt64 + 7, -32768},
	} {
		mustPcm(t, c[:1], c[1:])
		mustPcm(t, []int64{24, c[0], -24, c[0]}, []int64{2, c[1], -1, c[1]})
	}
	var all, want []int64
	for v := int64(-600000); v <= 600000; v++ {
		all = append(all, v)
		want = append(want, within(floored(v+8, 16), -32768, 32767))
	}
	mustPcm(t, all, want)
	for _, n := range []int{1, 2, 480, 481, 960, 10000} {
		mustPcm(t, repeat(40, n), repeat(3, n))
	}
}

// Values reckoned apart from the program, in another language.
func TestRunOfDrawnParts(t *testing.T) {
	for _, c := range []struct {
		first, count uint32
		whole, apart uint64
	}{
		{1, 40, 10308958190025591628, 7747758597037837938},
		{1000, 200, 14755208003932803460, 17747987223052122517},
		{5000, 400, 1481759839822852415, 9211371027637565263},
	} {
		v := synth.New()
		var whole, apart []int64
		for seed := c.first; seed < c.first+c.count; seed++ {
			p := drawnPart(seed)
			l, _ := v.Run(p)
			whole = append(whole, l...)
			l, _ = synth.New().Run(p)
			apart = append(apart, l...)
		}
		if s := sumOf(whole); s != c.whole {
			t.Errorf("P10.1: %d parts from %d on, by one voice: checksum %d, want %d", c.count, c.first, s, c.whole)
		}
		if s := sumOf(apart); s != c.apart {
			t.Errorf("P10.1: %d parts from %d on, each by its own voice: checksum %d, want %d", c.count, c.first, s, c.apart)
		}
	}
}

// drawn are bytes by a rule that the values reckoned apart were drawn by too.
func drawn(seed uint32, n int) []byte {
	b := make([]byte, n)
	for i := range b {
		seed = (seed*1103515245 + 12345) % (1 << 31)
		b[i] = byte(seed >> 16)
	}
	return b
}

func drawnPart(seed uint32) synth.Part {
	b := drawn(seed, 600)
	two := func(i int) int64 { return int64(b[i])*256 + int64(b[i+1]) }
	p := synth.Part{Pulses: make([]int64, []int{1, 2, 5, 17, 31, 33, 80, 480}[b[0]%8]), Filter: make([]int64, b[11]%33)}
	for i := range p.Pulses {
		if x := uint32(b[100+i]); x%(1+seed%5) == 0 {
			p.Pulses[i] = int64(x)%33 - 16
		}
	}
	p.Loud = min(two(1)*5>>(seed%13), 1<<18)
	if b[3]%3 > 0 {
		p.Lag = int(3 + two(4)%316)
	}
	for j := range p.Taps {
		p.Taps[j] = within(floored((int64(b[6+j])-128)*17, 16)>>(seed%4), -128, 128)
	}
	for k := range p.Filter {
		p.Filter[k] = within((two(12+2*k)-32768)*5>>[]int{0, 5, 6, 7, 8, 9, 10, 12, 14}[seed%9], -1<<17, 1<<17)
	}
	return p
}

func sumOf(l []int64) uint64 {
	h := fnv.New64a()
	var b [8]byte
	for _, v := range l {
		binary.LittleEndian.PutUint64(b[:], uint64(v))
		h.Write(b[:])
	}
	return h.Sum64()
}
