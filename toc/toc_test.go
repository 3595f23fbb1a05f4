package toc_test

import (
	"bytes"
	"math"
	"slices"
	"testing"

	"madrigal/api"
	"madrigal/toc"
)

// numbers that no config, no count and no size is.
var far = []int{math.MinInt, math.MinInt + 1, -1 << 32, -256, -12, -2, -1, 1 << 32, 1<<32 + 1, 1<<40 + 2, math.MaxInt - 1, math.MaxInt}

// frames are of these sizes, each of bytes of its own.
func frames(n ...int) [][]byte {
	var l [][]byte
	for i, k := range n {
		l = append(l, bytes.Repeat([]byte{byte(i + 1)}, k))
	}
	return l
}

func repeated(k, n int) [][]byte { return frames(slices.Repeat([]int{n}, k)...) }

// join puts lists of bytes one behind another.
func join(l ...[]byte) []byte { return bytes.Join(l, nil) }

func noughts(n int) []byte { return make([]byte, n) }

func mustParse(t *testing.T, b []byte, want toc.Packet) {
	t.Helper()
	p, x := toc.Parse(b)
	if x != api.OK || !equal(p, want) {
		t.Errorf("P5.1: Parse of %x (%d bytes): %s, %d; want %s", b[:min(len(b), 12)], len(b), told(p), x, told(want))
	}
}

func mustRefuse(t *testing.T, b []byte) {
	t.Helper()
	p, x := toc.Parse(b)
	if x != api.EFORM || !equal(p, toc.Packet{}) {
		t.Errorf("P5.1: Parse of %x (%d bytes): %s, %d; want EFORM and no packet", b[:min(len(b), 12)], len(b), told(p), x)
	}
}

func mustPack(t *testing.T, p toc.Packet, want []byte) {
	t.Helper()
	b, x := toc.Pack(p)
	if x != api.OK || !bytes.Equal(b, want) {
		t.Errorf("P5.2: Pack of %s: %x.. (%d bytes), %d; want %x.. (%d bytes)", told(p), b[:min(len(b), 12)], len(b), x, want[:min(len(want), 12)], len(want))
	}
	if !toc.Good(p) {
		t.Errorf("P5.2: Good of %s: false", told(p))
	}
}

func mustNotPack(t *testing.T, p toc.Packet) {
	t.Helper()
	if b, x := toc.Pack(p); x != api.EARG || len(b) != 0 {
		t.Errorf("P5.2: Pack of %s: %d bytes, %d; want EARG and no bytes", told(p), len(b), x)
	}
	if toc.Good(p) {
		t.Errorf("P5.2: Good of %s: true", told(p))
	}
}

func TestExamples(t *testing.T) {
	mustParse(t, []byte{9 * 8, 5}, toc.Packet{Config: 9, Channels: 1, Frames: [][]byte{{5}}})
	mustRefuse(t, []byte{})
	mustRefuse(t, nil)
	mustRefuse(t, []byte{12 * 8})
	mustPack(t, toc.Packet{Config: 0, Channels: 1, Frames: [][]byte{{1}, {2}}}, []byte{1, 1, 2})
}

func TestConfigs(t *testing.T) {
	want := []toc.Config{
		{0, 8000, 10}, {0, 8000, 20}, {0, 16000, 10}, {0, 16000, 20}, {1, 24000, 10}, {1, 24000, 20},
		{2, 8000, 10}, {2, 8000, 20}, {2, 16000, 10}, {2, 16000, 20}, {2, 24000, 10}, {2, 24000, 20},
	}
	for n, w := range want {
		if c, x := toc.Of(n); c != w || x != api.OK {
			t.Errorf("P5.1: Of(%d): %v, %d", n, c, x)
		}
		if k, x := toc.Number(w); k != n || x != api.OK {
			t.Errorf("P5.1: Number(%v): %d, %d", w, k, x)
		}
	}
	for _, n := range append([]int{12, 13, 24, 31, 96, 255, 256}, far...) {
		if c, x := toc.Of(n); c != (toc.Config{}) || x != api.EARG {
			t.Errorf("P5.1: Of(%d): %v, %d", n, c, x)
		}
	}
}

func TestNumberOfNone(t *testing.T) {
	modes := append([]int{0, 1, 2, 3, 4}, far...)
	rates := append([]int{0, 8, 7999, 8000, 8001, 12000, 15999, 16000, 16001, 23999, 24000, 24001, 48000}, far...)
	times := append([]int{0, 1, 5, 9, 10, 11, 15, 19, 20, 21, 30, 40, 60, 120}, far...)
	found := 0
	for _, mode := range modes {
		for _, rate := range rates {
			for _, ms := range times {
				c := toc.Config{Mode: mode, Rate: rate, Ms: ms}
				n, x := toc.Number(c)
				if x == api.OK {
					found++
					if has, _ := toc.Of(n); has != c {
						t.Errorf("P5.1: Number(%v): %d", c, n)
					}
				} else if x != api.EARG || n != 0 {
					t.Errorf("P5.1: Number(%v): %d, %d", c, n, x)
				}
			}
		}
	}
	if found != 12 {
		t.Errorf("P5.1: %d configs have a number", found)
	}
}

// Of all 256 bytes, each by itself: those of a config and code 0, 1 are empty frames; code 2 lacks its length, 3 its byte.
func TestFirstByte(t *testing.T) {
	for v := range 256 {
		b := []byte{byte(v)}
		if v >= 12*8 || v%4 > 1 {
			mustRefuse(t, b)
			continue
		}
		mustParse(t, b, toc.Packet{Config: v / 8, Channels: 1 + v/4%2, Frames: frames(make([]int, 1+v%4)...)})
	}
	for code, rest := range [][]byte{{9}, {9, 9}, {1, 9, 9}, {2, 9, 9}} {
		for channels := 1; channels < 3; channels++ {
			first := byte(11*8 + 4*(channels-1) + code)
			if p, x := toc.Parse(append([]byte{first}, rest...)); x != api.OK || p.Config != 11 || p.Channels != channels {
				t.Errorf("P5.1: Parse of a first byte %d: config %d, %d channels, %d", first, p.Config, p.Channels, x)
			}
			mustRefuse(t, append([]byte{first + 8}, rest...))
		}
	}
}

func TestOneFrame(t *testing.T) {
	for _, n := range []int{0, 1, 2, 251, 252, 255, 256, 1274, 1275} {
		p := toc.Packet{Config: 5, Channels: 2, Frames: frames(n)}
		b := join([]byte{5*8 + 4}, p.Frames[0])
		mustParse(t, b, p)
		mustPack(t, p, b)
	}
	for _, n := range []int{1276, 1277, 2550, 1 << 16} {
		mustRefuse(t, join([]byte{0}, noughts(n)))
		mustRefuse(t, join([]byte{3, 1}, noughts(n)))
		mustRefuse(t, join([]byte{3, 128 + 1}, noughts(n)))
		mustRefuse(t, join([]byte{3, 64 + 1, 1}, noughts(n+1)))
		mustNotPack(t, toc.Packet{Channels: 1, Frames: frames(n)})
	}
	mustParse(t, join([]byte{3, 1}, noughts(1275)), toc.Packet{Channels: 1, Frames: [][]byte{noughts(1275)}})
	mustParse(t, join([]byte{3, 64 + 1, 1}, noughts(1276)), toc.Packet{Channels: 1, Frames: [][]byte{noughts(1275)}, Pad: 1})
}

func TestHalves(t *testing.T) {
	for n := 0; n <= 2*api.MaxFrame+4; n++ {
		b := join([]byte{1}, noughts(n))
		if n%2 == 1 || n > 2*api.MaxFrame {
			mustRefuse(t, b)
			continue
		}
		p := toc.Packet{Channels: 1, Frames: [][]byte{noughts(n / 2), noughts(n / 2)}}
		mustParse(t, b, p)
		mustPack(t, p, b)
	}
	mustParse(t, []byte{1, 10, 11, 12, 13}, toc.Packet{Channels: 1, Frames: [][]byte{{10, 11}, {12, 13}}})
}

// All lengths, told by code 2 and by code 3: with as much as they ask, with one byte less, and without their second byte.
func TestLengths(t *testing.T) {
	for n := 0; n <= api.MaxFrame; n++ {
		l := lengthBytes(n)
		for _, other := range []int{0, 1, n, api.MaxFrame} {
			p := toc.Packet{Config: 2, Channels: 1, Frames: frames(n, other)}
			b := join([]byte{2*8 + 2}, l, p.Frames[0], p.Frames[1])
			mustParse(t, b, p)
			if n != other {
				mustPack(t, p, b)
			}
		}
		mustRefuse(t, join([]byte{2}, l[:len(l)-1]))
		mustRefuse(t, join([]byte{3, 128 + 2}, l[:len(l)-1]))
		mustRefuse(t, join([]byte{3, 128 + 3, 0}, l[:len(l)-1]))
		if n > 0 {
			mustRefuse(t, join([]byte{2}, l, noughts(n-1)))
			mustRefuse(t, join([]byte{3, 128 + 3, 1}, l, noughts(n)))
			mustRefuse(t, join([]byte{3, 128 + 3}, l, []byte{1}, noughts(n)))
			mustRefuse(t, join([]byte{3, 128 + 64 + 2, 1}, l, noughts(n)))
		}
		three := toc.Packet{Config: 3, Channels: 2, Frames: frames(n, 1, n)}
		b := join([]byte{3*8 + 7, 128 + 3}, l, []byte{1}, three.Frames[0], three.Frames[1], three.Frames[2])
		mustParse(t, b, three)
		if n != 1 {
			mustPack(t, three, b)
		}
	}
}

// What no length tells: the last frame, and frames that are alike.
func TestLongFramesThatNoLengthTells(t *testing.T) {
	for _, n := range []int{1274, 1275, 1276, 1279, 1280, 3000} {
		last := toc.Packet{Channels: 1, Frames: [][]byte{{0}, noughts(n)}}
		for _, head := range [][]byte{{2, 1}, {3, 128 + 2, 1}} {
			b := join(head, noughts(1+n))
			if n > api.MaxFrame {
				mustRefuse(t, b)
			} else {
				mustParse(t, b, last)
			}
		}
		same := toc.Packet{Channels: 1, Frames: [][]byte{noughts(n), noughts(n), noughts(n)}}
		if n > api.MaxFrame {
			mustRefuse(t, join([]byte{3, 3}, noughts(3*n)))
			mustNotPack(t, last)
			mustNotPack(t, same)
			mustNotPack(t, toc.Packet{Channels: 1, Frames: [][]byte{noughts(n), {0}}})
			mustNotPack(t, toc.Packet{Channels: 1, Frames: [][]byte{{0}, noughts(n), {0}}})
		} else {
			mustParse(t, join([]byte{3, 3}, noughts(3*n)), same)
			mustPack(t, last, join([]byte{2, 1}, noughts(1+n)))
			mustPack(t, same, join([]byte{3, 3}, noughts(3*n)))
		}
	}
}

func TestHowManyFrames(t *testing.T) {
	for config := range 12 {
		most := 12
		if config%2 == 1 {
			most = 6
		}
		first := byte(config*8 + 3)
		mustRefuse(t, []byte{first})
		for m := range 64 {
			p := toc.Packet{Config: config, Channels: 1, Frames: repeated(m, 2)}
			for _, b := range [][]byte{
				join(append([][]byte{{first, byte(m)}}, p.Frames...)...),
				join(append([][]byte{{first, byte(128 + m)}, bytes.Repeat([]byte{2}, max(m-1, 0))}, p.Frames...)...),
				join(append([][]byte{{first, byte(64 + m), 0}}, p.Frames...)...),
				join(append([][]byte{{first, byte(64 + 128 + m), 0}, bytes.Repeat([]byte{2}, max(m-1, 0))}, p.Frames...)...),
			} {
				if m < 1 || m > most {
					mustRefuse(t, b)
				} else {
					mustParse(t, b, p)
				}
			}
			if m < 1 || m > most {
				mustNotPack(t, p)
			} else if m > 2 {
				mustPack(t, p, join(append([][]byte{{first, byte(m)}}, p.Frames...)...))
			}
			if m > 0 && m <= most {
				mustParse(t, []byte{first, byte(m)}, toc.Packet{Config: config, Channels: 1, Frames: repeated(m, 0)})
			}
		}
	}
	for _, n := range []int{64, 65, 68, 128, 255, 256, 257, 1 << 16} {
		mustNotPack(t, toc.Packet{Channels: 1, Frames: make([][]byte, n)})
	}
}

func TestRestThatIsNoMultiple(t *testing.T) {
	for m := 1; m <= 12; m++ {
		for n := range 60 {
			for _, head := range [][]byte{{3, byte(m)}, {3, byte(64 + m), 0}} {
				b := join(head, noughts(n))
				if n%m != 0 {
					mustRefuse(t, b)
				} else {
					mustParse(t, b, toc.Packet{Channels: 1, Frames: toFrames(noughts(n), m)})
				}
			}
		}
	}
}

func toFrames(b []byte, m int) [][]byte {
	var l [][]byte
	for i := range m {
		l = append(l, b[len(b)/m*i:len(b)/m*(i+1)])
	}
	return l
}

// The padding is told right, is all that is left, is one more than that; the bytes that count it are missing.
func TestPadding(t *testing.T) {
	for _, pad := range []int{0, 1, 2, 252, 253, 254, 255, 256, 507, 508, 509, 762, 1000, 1001, 5000, 61264, 1 << 20} {
		count := padBytes(pad)
		padding := bytes.Repeat([]byte{77}, pad)
		for _, c := range []struct {
			head    []byte
			lengths []byte
			frames  [][]byte
		}{
			{[]byte{3, 64 + 1}, nil, frames(0)},
			{[]byte{3, 64 + 1}, nil, frames(5)},
			{[]byte{3, 64 + 2}, nil, frames(3, 3)},
			{[]byte{3, 64 + 128 + 1}, nil, frames(3)},
			{[]byte{3, 64 + 128 + 2}, []byte{2}, frames(2, 3)},
			{[]byte{3, 64 + 128 + 2}, []byte{0}, frames(0, 0)},
			{[]byte{3, 64 + 128 + 3}, []byte{252, 0, 1}, frames(252, 1, 0)},
		} {
			whole := join(c.head, count, c.lengths, join(c.frames...), padding)
			p := toc.Packet{Channels: 1, Frames: c.frames, Pad: pad}
			mustParse(t, whole, p)
			mustRefuse(t, join(c.head, count[:len(count)-1]))
			if len(count) > 1 {
				mustRefuse(t, join(c.head, count[:1]))
			}
			if len(join(c.frames...)) == 0 && pad > 0 {
				mustRefuse(t, whole[:len(whole)-1])
			}
			if pad > 1000 {
				mustNotPack(t, p)
			}
		}
	}
	mustRefuse(t, []byte{3, 64 + 1})
	mustRefuse(t, []byte{3, 64 + 1, 1})
	mustRefuse(t, []byte{3, 64 + 128 + 2, 2, 0, 9})
	mustRefuse(t, []byte{3, 64 + 128 + 2, 1, 0})
}

func TestPackOfPaddings(t *testing.T) {
	for pad := 1; pad <= 1000; pad++ {
		count := padBytes(pad)
		one := toc.Packet{Config: 10, Channels: 2, Frames: frames(2), Pad: pad}
		mustPack(t, one, join([]byte{10*8 + 7, 64 + 1}, count, []byte{1, 1}, noughts(pad)))
		two := toc.Packet{Config: 10, Channels: 1, Frames: frames(2, 2), Pad: pad}
		mustPack(t, two, join([]byte{10*8 + 3, 64 + 2}, count, []byte{1, 1, 2, 2}, noughts(pad)))
		unlike := toc.Packet{Config: 10, Channels: 1, Frames: frames(2, 1), Pad: pad}
		mustPack(t, unlike, join([]byte{10*8 + 3, 64 + 128 + 2}, count, []byte{2, 1, 1, 2}, noughts(pad)))
	}
	for _, pad := range append([]int{1001, 1002, 1016, 1275, 1 << 16}, far...) {
		mustNotPack(t, toc.Packet{Channels: 1, Frames: frames(2), Pad: pad})
		mustNotPack(t, toc.Packet{Channels: 1, Frames: frames(2, 1, 2), Pad: pad})
	}
}

func TestPaddingMayBeAny(t *testing.T) {
	for fill := range 256 {
		b := join([]byte{3, 64 + 1, 3, 9}, bytes.Repeat([]byte{byte(fill)}, 3))
		mustParse(t, b, toc.Packet{Channels: 1, Frames: [][]byte{{9}}, Pad: 3})
	}
}

func TestPackOfFewFrames(t *testing.T) {
	for _, c := range []struct {
		sizes []int
		want  []byte
	}{
		{[]int{0}, []byte{0}}, {[]int{3}, []byte{0, 1, 1, 1}}, {[]int{0, 0}, []byte{1}}, {[]int{1, 1}, []byte{1, 1, 2}},
		{[]int{0, 1}, []byte{2, 0, 2}}, {[]int{1, 0}, []byte{2, 1, 1}}, {[]int{0, 0, 0}, []byte{3, 3}},
		{[]int{0, 0, 1}, []byte{3, 128 + 3, 0, 0, 3}}, {[]int{1, 0, 1}, []byte{3, 128 + 3, 1, 0, 1, 3}},
		{[]int{1, 0, 0}, []byte{3, 128 + 3, 1, 0, 1}}, {[]int{2, 2, 2}, []byte{3, 3, 1, 1, 2, 2, 3, 3}},
	} {
		mustPack(t, toc.Packet{Channels: 1, Frames: frames(c.sizes...)}, c.want)
		c.want[0] += 11*8 + 4
		mustPack(t, toc.Packet{Config: 11, Channels: 2, Frames: frames(c.sizes...)}, c.want)
	}
	mustPack(t, toc.Packet{Channels: 1, Frames: [][]byte{nil, nil}}, []byte{1})
	mustPack(t, toc.Packet{Channels: 1, Frames: [][]byte{nil, {}, nil}}, []byte{3, 3})
}

func TestPackOfWrongOnes(t *testing.T) {
	good := toc.Packet{Config: 1, Channels: 1, Frames: frames(3, 4), Pad: 5}
	wrong := []toc.Packet{{}, {Config: 1, Channels: 1}, {Config: 1, Channels: 2, Frames: [][]byte{}, Pad: 3}}
	for _, v := range append([]int{12, 13, 32, 33, 256}, far...) {
		p := good
		p.Config = v
		wrong = append(wrong, p)
	}
	for _, v := range append([]int{0, 3, 4, 257, 258}, far...) {
		p := good
		p.Channels = v
		wrong = append(wrong, p)
	}
	for _, p := range wrong {
		mustNotPack(t, p)
	}
	for channels := 1; channels < 3; channels++ {
		p := good
		p.Channels = channels
		mustPack(t, p, laid(p, chosen(p), 0))
	}
}
