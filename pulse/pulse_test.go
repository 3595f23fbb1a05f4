package pulse_test

import (
	"encoding/binary"
	"hash/fnv"
	"math"
	"slices"
	"testing"

	"madrigal/api"
	"madrigal/pulse"
	"madrigal/rc"
	"madrigal/renc"
)

// far are numbers far from all that is asked for, and next to what wraps round.
var far = []int{math.MinInt, math.MinInt + 1, -1 << 32, -1 << 31, 1 << 31, 1 << 32, math.MaxInt - 1, math.MaxInt}

// blockOf has these pulses at these places: place, pulses, place, pulses ..
func blockOf(l ...int64) []int64 {
	b := make([]int64, 16)
	for i := 0; i < len(l); i += 2 {
		b[l[i]] = l[i+1]
	}
	return b
}

// edgeBlocks are the blocks at the chapter's edges.
func edgeBlocks() [][]int64 {
	l := [][]int64{make([]int64, 16)}
	for i := int64(0); i < 16; i++ {
		for _, v := range []int64{1, -1, 2, -2, 15, -15, 16, -16} {
			l = append(l, blockOf(i, v))
		}
		// One beside it, or far from it, with the other sign.
		l = append(l, blockOf(i, 15, (i+1)%16, -1), blockOf(i, -8, (i+8)%16, 8), blockOf(i, 1, 15-i, -3))
	}
	for _, v := range []int64{1, -1} {
		l = append(l, slices.Repeat([]int64{v}, 16), slices.Repeat([]int64{v, -v}, 8),
			slices.Concat(slices.Repeat([]int64{2 * v}, 8), make([]int64, 8)),
			slices.Concat(make([]int64, 8), slices.Repeat([]int64{v, -3 * v}, 4)),
			slices.Concat(slices.Repeat([]int64{v}, 8), make([]int64, 8)),
			slices.Concat(make([]int64, 8), slices.Repeat([]int64{-v}, 8)))
	}
	return l
}

func TestExamples(t *testing.T) {
	if !pulse.Good(make([]int64, 16)) {
		t.Errorf("P9.2: Good of sixteen noughts: false")
	}
	if l := pulse.Fewer([]int64{3, -2, 1}, 4); !slices.Equal(l, []int64{2, -1, 1}) {
		t.Errorf("P9.2: Fewer((3, -2, 1), 4): %d", l)
	}
}

// Each edge block by itself, written by Write and by renc's calls, read by Read and by rc's.
func TestEdgeBlocks(t *testing.T) {
	for _, l := range edgeBlocks() {
		e, apart := renc.New(), renc.New()
		if x := pulse.Write(e, l); x != api.OK || !pulse.Good(l) {
			t.Fatalf("P9.2: Write(%d): %d, Good %t", l, x, pulse.Good(l))
		}
		writeApart(apart, l)
		if e.Tell() != apart.Tell() {
			t.Fatalf("P9.2: Tell() %d behind Write(%d), want %d", e.Tell(), l, apart.Tell())
		}
		b, _ := e.Done((e.Tell() + 7) / 8)
		c, _ := apart.Done((e.Tell() + 7) / 8)
		d, other := rc.New(b), rc.New(c)
		if v, x := pulse.Read(other, 16); x != api.OK || !slices.Equal(v, l) || other.Tell() != e.Tell() || other.Bad() {
			t.Fatalf("P9.1: Read: %d, %d, Tell() %d, want %d, %d", v, x, other.Tell(), l, e.Tell())
		}
		if v := readApart(d, 16); !slices.Equal(v, l) || d.Tell() != e.Tell() || d.Bad() {
			t.Fatalf("P9.2: behind Write(%d) rc's calls read %d, Tell() %d, want %d", l, v, d.Tell(), e.Tell())
		}
	}
}

// What a block is told by, step for step, by hand.
func TestStepsByHand(t *testing.T) {
	for _, c := range []struct {
		l    []int64
		told []step
	}{
		{blockOf(), []step{{"symbol", 0, 0}}},
		{blockOf(0, 1), []step{{"symbol", 1, 0}, {"uint", 1, 2}, {"uint", 1, 2}, {"uint", 1, 2}, {"uint", 1, 2}, {"bits", 0, 1}}},
		{blockOf(15, -1), []step{{"symbol", 1, 0}, {"uint", 0, 2}, {"uint", 0, 2}, {"uint", 0, 2}, {"uint", 0, 2}, {"bits", 1, 1}}},
		{blockOf(6, -16), []step{{"symbol", 16, 0}, {"uint", 16, 17}, {"uint", 0, 17}, {"uint", 0, 17}, {"uint", 16, 17}, {"bits", 1, 1}}},
		{blockOf(3, 2, 9, -1), []step{
			{"symbol", 3, 0}, {"uint", 2, 4},
			{"uint", 2, 3}, {"uint", 0, 3}, {"uint", 0, 3},
			{"uint", 1, 2}, {"uint", 1, 2}, {"uint", 0, 2},
			{"bits", 0, 1}, {"bits", 1, 1},
		}},
		{[]int64{1, -2, 0, 0, 0, 0, 3, 1, 0, -1, 0, 0, 4, 0, 0, 2}, []step{
			{"symbol", 14, 0}, {"uint", 7, 15},
			{"uint", 3, 8}, {"uint", 3, 4}, {"uint", 1, 4}, {"uint", 0, 5}, {"uint", 3, 5},
			{"uint", 1, 8}, {"uint", 1, 2}, {"uint", 0, 2}, {"uint", 4, 7}, {"uint", 4, 5}, {"uint", 0, 3},
			{"bits", 0, 1}, {"bits", 1, 1}, {"bits", 0, 1}, {"bits", 0, 1}, {"bits", 1, 1}, {"bits", 0, 1}, {"bits", 0, 1},
		}},
	} {
		e := renc.New()
		for _, s := range c.told {
			if x := s.write(e); x != api.OK {
				t.Fatalf("%v: %d", s, x)
			}
		}
		n := (e.Tell() + 7) / 8
		b, _ := e.Done(n)
		d := rc.New(b)
		if v, x := pulse.Read(d, 16); x != api.OK || !slices.Equal(v, c.l) || d.Tell() != e.Tell() {
			t.Errorf("P9.1: Read: %d, %d, Tell() %d, want %d, Tell() %d", v, x, d.Tell(), c.l, e.Tell())
		}
		w := renc.New()
		if x := pulse.Write(w, c.l); x != api.OK || w.Tell() != e.Tell() {
			t.Errorf("P9.2: Write(%d): %d, Tell() %d, want %d", c.l, x, w.Tell(), e.Tell())
		}
		b, _ = w.Done(n)
		d = rc.New(b)
		for i, s := range c.told {
			if v := s.read(d); v != s.v {
				t.Errorf("P9.2: of what Write(%d) writes number %d is %d, want %v", c.l, i, v, s)
			}
		}
	}
}

// Of no pulses nothing is read behind their number.
func TestNoPulses(t *testing.T) {
	for _, n := range []int{16, 32, 480} {
		e, apart := renc.New(), renc.New()
		pulse.Write(e, make([]int64, n))
		for range n / 16 {
			apart.Symbol(0, counts)
		}
		b, _ := e.Done((e.Tell() + 7) / 8)
		d := rc.New(b)
		l, x := pulse.Read(d, n)
		if x != api.OK || !slices.Equal(l, make([]int64, n)) || e.Tell() != apart.Tell() || d.Tell() != apart.Tell() {
			t.Errorf("P9.1: %d samples without pulses: %d, %d, Tell() %d, %d, want %d", n, l, x, e.Tell(), d.Tell(), apart.Tell())
		}
	}
}

// Values reckoned apart from the program, in another language.
func TestReadOfDrawnBytes(t *testing.T) {
	for i, want := range []struct {
		l    []int64
		tell int
	}{
		{[]int64{0, 0, 1, 4, 0, 0, 0, 0, 2, 0, 0, 0, 0, 0, 0, 0, 0, 0, 0, 0, 0, -1, -2, 3, 0, 0, -2, 0, 0, 0, 0, 0}, 50},
		{[]int64{0, 0, 0, 0, 1, 0, 0, 0, 0, 0, 0, 0, -1, 1, 0, 1, 0, 0, 0, 0, 0, 0, 1, 0, 0, 1, 1, 0, 0, 0, 0, 0}, 37},
		{[]int64{0, 0, 0, 0, 0, 0, 0, 0, 0, 0, 1, 1, 0, 0, 0, 0, 0, -1, -1, 0, 0, 0, 1, 0, 0, 0, 0, -1, 1, 0, 0, 0}, 37},
		{[]int64{0, 0, 0, 0, 0, 0, 0, 0, 0, 0, 0, 0, 0, 0, 0, 0, 0, 0, 0, 0, 1, 0, 0, -4, 0, 0, 0, 0, 0, 0, 0, 0}, 21},
	} {
		d := rc.New(drawn(uint32(i+1), 40))
		if l, x := pulse.Read(d, 32); x != api.OK || !slices.Equal(l, want.l) || d.Tell() != want.tell {
			t.Errorf("P9.1: Read of the bytes %d: %d, %d, Tell() %d, want %d, %d", i+1, l, x, d.Tell(), want.l, want.tell)
		}
	}
	for _, c := range []struct {
		n, size int
		want    uint64
	}{{16, 8, 828361979809092653}, {80, 60, 1052032360939445600}, {480, 400, 3358731758997044488}, {480, 100, 16125380316448634242}} {
		var all []int64
		for seed := uint32(1); seed <= 200; seed++ {
			d := rc.New(drawn(seed, c.size))
			l, _ := pulse.Read(d, c.n)
			all = append(append(all, l...), int64(d.Tell()))
		}
		if v := sumOf(all); v != c.want {
			t.Errorf("P9.1: Read of %d, of %d bytes: checksum %d, want %d", c.n, c.size, v, c.want)
		}
	}
}

func TestReadOfFewBytes(t *testing.T) {
	for _, c := range []struct {
		b    []byte
		want []int64
	}{
		{nil, make([]int64, 16)},
		{[]byte{}, make([]int64, 16)},
		{[]byte{0}, make([]int64, 16)},
		{[]byte{128}, []int64{0, 0, 0, 0, 0, 1, 1, 1, 0, 0, 0, 0, 0, 0, 0, 0}},
		{[]byte{255}, []int64{-3, 0, 0, 0, -8, 0, 0, 0, -3, -1, -1, 0, 0, 0, 0, 0}},
	} {
		if l, x := pulse.Read(rc.New(c.b), 16); x != api.OK || !slices.Equal(l, c.want) {
			t.Errorf("P9.1: Read of %x: %d, %d, want %d", c.b, l, x, c.want)
		}
	}
	// Of no bytes all is read, and it is Bad.
	d := rc.New(nil)
	if l, x := pulse.Read(d, 480); x != api.OK || !slices.Equal(l, make([]int64, 480)) || !d.Bad() {
		t.Errorf("P9.1: Read of no bytes: %d, %d, Bad() %t", l, x, d.Bad())
	}
}

func TestLengths(t *testing.T) {
	for n := -40; n <= 520; n++ {
		d := rc.New(drawn(9, 300))
		l, x := pulse.Read(d, n)
		if n >= 16 && n <= 480 && n%16 == 0 {
			if x != api.OK || len(l) != n || d.Tell() == 1 {
				t.Errorf("P9.1: Read of %d: %d numbers, %d", n, len(l), x)
			}
		} else if x != api.EARG || len(l) != 0 || d.Tell() != 1 {
			t.Errorf("P9.1: Read of %d: %d numbers, %d, Tell() %d", n, len(l), x, d.Tell())
		}
		if n < 0 {
			continue
		}
		e := renc.New()
		good, x := pulse.Good(make([]int64, n)), pulse.Write(e, make([]int64, n))
		if n >= 16 && n <= 480 && n%16 == 0 {
			if !good || x != api.OK || e.Tell() == 1 {
				t.Errorf("P9.2: %d noughts: Good %t, Write %d", n, good, x)
			}
		} else if good || x != api.EARG || e.Tell() != 1 {
			t.Errorf("P9.2: %d noughts: Good %t, Write %d, Tell() %d", n, good, x, e.Tell())
		}
	}
	for _, n := range []int{0, 16, 100, 480, 496, 960, 1 << 20} {
		if good := pulse.Good(make([]int64, n)); good != (n == 16 || n == 480) {
			t.Errorf("P9.2: Good of %d noughts: %t", n, good)
		}
	}
}

func TestGood(t *testing.T) {
	right := slices.Repeat(blockOf(2, 9, 11, -7), 3)
	for _, c := range []struct {
		l    []int64
		want bool
	}{
		{nil, false}, {[]int64{}, false},
		{blockOf(0, 15), true}, {blockOf(0, 16), true}, {blockOf(0, 17), false},
		{blockOf(15, -15), true}, {blockOf(15, -16), true}, {blockOf(15, -17), false},
		{blockOf(1, 7, 2, 8), true}, {blockOf(1, 8, 2, -8), true}, {blockOf(1, -8, 2, 9), false}, {blockOf(1, -9, 2, -8), false},
		{slices.Repeat([]int64{1}, 16), true}, {slices.Repeat([]int64{-1}, 16), true},
		{append(slices.Repeat([]int64{1}, 15), 2), false}, {append([]int64{-2}, slices.Repeat([]int64{1}, 15)...), false},
		// Without signs: what comes to nought with them is too much all the same.
		{blockOf(3, 9, 4, -9), false}, {blockOf(3, 1<<40, 4, -1<<40), false},
		// Each block by itself, not all together.
		{slices.Repeat(blockOf(5, -16), 30), true},
		{slices.Concat(right, blockOf(0, 17)), false}, {slices.Concat(blockOf(0, 17), right), false},
		{slices.Concat(right, blockOf(15, -9, 3, 8), right), false}, {slices.Concat(right, blockOf(15, -9, 3, 7), right), true},
		// Two halves of blocks that are one behind the other.
		{slices.Concat(blockOf(12, 10, 13, 6), blockOf(0, 10, 1, -6)), true},
	} {
		if v := pulse.Good(c.l); v != c.want || goodApart(c.l) != c.want {
			t.Errorf("P9.2: Good(%d): %t, want %t", c.l, v, c.want)
		}
		e := renc.New()
		if x := pulse.Write(e, c.l); (x == api.OK) != c.want || !c.want && (x != api.EARG || e.Tell() != 1) {
			t.Errorf("P9.2: Write(%d): %d, Tell() %d", c.l, x, e.Tell())
		}
	}
}

// No sum of great numbers wraps round to a small one.
func TestGoodOfGreatNumbers(t *testing.T) {
	great := []int64{math.MinInt64, math.MinInt64 + 1, -1 << 62, -1 << 61, -1 << 60, -1 << 32, 1 << 32, 1 << 60, 1 << 61, 1 << 62, math.MaxInt64 - 1, math.MaxInt64}
	for _, a := range great {
		for i := int64(0); i < 16; i++ {
			mustNotBeGood(t, blockOf(i, a))
			for _, b := range great {
				mustNotBeGood(t, blockOf(i, a, (i+5)%16, b))
				mustNotBeGood(t, slices.Concat(make([]int64, 16), blockOf(i, a, (i+1)%16, b, (i+2)%16, 2), make([]int64, 16)))
			}
		}
		for _, n := range []int{3, 4, 8, 15, 16} {
			mustNotBeGood(t, append(slices.Repeat([]int64{a}, n), make([]int64, 16-n)...))
		}
	}
}

func mustNotBeGood(t *testing.T, l []int64) {
	t.Helper()
	e := renc.New()
	if x := pulse.Write(e, l); pulse.Good(l) || x != api.EARG || e.Tell() != 1 {
		t.Fatalf("P9.2: Good(%d): %t, Write %d, Tell() %d", l, pulse.Good(l), x, e.Tell())
	}
}

func TestFewer(t *testing.T) {
	for _, c := range []struct {
		l    []int64
		most int
		want []int64
	}{
		{nil, 3, nil}, {[]int64{}, 3, nil},
		{[]int64{0}, 0, []int64{0}}, {[]int64{7}, 7, []int64{7}}, {[]int64{7}, 6, []int64{6}}, {[]int64{-7}, 0, []int64{0}}, {[]int64{-7}, 1, []int64{-1}},
		// Clamped ahead of all else.
		{[]int64{16}, 16, []int64{16}}, {[]int64{17}, 16, []int64{16}}, {[]int64{-17}, 16, []int64{-16}}, {[]int64{math.MaxInt64}, 16, []int64{16}}, {[]int64{math.MinInt64}, 16, []int64{-16}},
		{[]int64{math.MinInt64, math.MaxInt64}, 16, []int64{-8, 8}}, {[]int64{100, 20}, 5, []int64{3, 2}}, {[]int64{20, 100}, 31, []int64{8, 8}},
		{[]int64{-3, 100}, 16, []int64{-3, 13}}, {[]int64{-3, 16}, 10, []int64{-3, 7}},
		// Of several with as many the last one first.
		{[]int64{1, 1, 1}, 2, []int64{1, 1, 0}}, {[]int64{1, 1, 1}, 1, []int64{1, 0, 0}}, {[]int64{1, -1, 1}, 0, []int64{0, 0, 0}},
		{[]int64{2, 1, 2}, 4, []int64{2, 1, 1}}, {[]int64{2, 1, 2}, 3, []int64{1, 1, 1}}, {[]int64{2, 1, 2}, 2, []int64{1, 1, 0}},
		{[]int64{-2, 2}, 3, []int64{-2, 1}}, {[]int64{2, -2}, 3, []int64{2, -1}}, {[]int64{2, -2, 0}, 1, []int64{1, 0, 0}},
		{[]int64{5, -5, 5, -5, 2, -1, 0, 16}, 9, []int64{2, -2, 1, -1, 1, -1, 0, 1}},
		// Mosts past both ends.
		{[]int64{5, -5}, -1, []int64{0, 0}}, {[]int64{5, -5}, math.MinInt, []int64{0, 0}}, {[]int64{5, -5}, 15, []int64{5, -5}},
		{[]int64{9, -8}, 15, []int64{8, -7}}, {[]int64{9, -8}, 16, []int64{8, -8}}, {[]int64{9, -8}, 17, []int64{8, -8}}, {[]int64{9, -8}, math.MaxInt, []int64{8, -8}},
		// A second block, shorter.
		{append([]int64{100, -100, 7}, slices.Repeat([]int64{1}, 14)...), 10, []int64{1, -1, 1, 1, 1, 1, 1, 1, 1, 1, 0, 0, 0, 0, 0, 0, 1}},
		{slices.Repeat([]int64{1}, 20), 3, slices.Concat([]int64{1, 1, 1}, make([]int64, 13), []int64{1, 1, 1, 0})},
	} {
		was := slices.Clone(c.l)
		if l := pulse.Fewer(c.l, c.most); !slices.Equal(l, c.want) || !slices.Equal(fewerApart(c.l, c.most), c.want) {
			t.Errorf("P9.2: Fewer(%d, %d): %d, want %d", was, c.most, l, c.want)
		}
		if !slices.Equal(c.l, was) {
			t.Errorf("R4: Fewer changes %d to %d", was, c.l)
		}
	}
}

func TestFewerOfLongLists(t *testing.T) {
	for _, n := range []int{0, 1, 15, 16, 17, 31, 32, 33, 463, 464, 465, 479, 480, 481, 496, 960, 5000} {
		l := slices.Repeat([]int64{-3, 2, 40, 1, 0}, 1000)[:n]
		for _, most := range append([]int{-1, 0, 1, 7, 15, 16, 17}, far...) {
			f, want := pulse.Fewer(l, most), fewerApart(l, most)
			if !slices.Equal(f, want) || n > 480 && f != nil {
				t.Errorf("P9.2: Fewer of %d numbers, %d: %d, want %d", n, most, f, want)
			}
		}
		for _, most := range []int{-1, 0, 1, 16} {
			f := pulse.Fewer(make([]int64, n), most)
			if n <= 480 && !slices.Equal(f, make([]int64, n)) || n > 480 && len(f) != 0 {
				t.Errorf("P9.2: Fewer of %d noughts: %d", n, f)
			}
		}
	}
}

// Values reckoned apart from the program, in another language.
func TestFewerOfDrawnNumbers(t *testing.T) {
	for spread, want := range map[int]uint64{3: 1263197470163576788, 9: 13798938249720804329, 41: 5118949391317087430} {
		var all []int64
		for seed := 1; seed <= 300; seed++ {
			var l []int64
			for _, v := range drawn(uint32(seed), seed*8/5) {
				l = append(l, int64(int(v)%spread-spread/2))
			}
			all = append(all, pulse.Fewer(l, seed%17)...)
		}
		if v := sumOf(all); v != want {
			t.Errorf("P9.2: Fewer of numbers up to %d: checksum %d, want %d", spread/2, v, want)
		}
	}
}

// drawn are bytes by a rule that the values reckoned apart were drawn by too.
func drawn(seed uint32, n int) []byte {
	b := make([]byte, n)
	for i := range b {
		seed = (seed*1103515245 + 12345) % (1 << 31)
		b[i] = byte(seed >> 16)
	}
	return b
}

func sumOf(l []int64) uint64 {
	h := fnv.New64a()
	var b [8]byte
	for _, v := range l {
		binary.LittleEndian.PutUint64(b[:], uint64(v))
		h.Write(b[:])
	}
	return h.Sum64()
}
