package speech_test

import (
	"math"
	"math/rand/v2"
	"slices"
	"testing"

	"madrigal/api"
	"madrigal/gain"
	"madrigal/lsf"
	"madrigal/speech"
)

// far are numbers far past all bounds, on both sides, up to the least and greatest that there are.
var far = []int{
	math.MinInt, math.MinInt + 1, -1 << 62, -1<<32 - 1, -1 << 32, -1<<31 - 1, -1 << 31, -1 << 16, -257, -256, -129, -100, -65, -64,
	129, 255, 256, 257, 1 << 16, 1<<31 - 1, 1 << 31, 1 << 32, 1<<32 + 1, 1<<32 + 20, 1 << 62, math.MaxInt - 1, math.MaxInt,
}

// voiced is a frame of a kind that differs at each place, and from those of other turns.
func (w form) voiced(kind, turn int) speech.Frame {
	f := speech.Frame{Fresh: turn%4 == 3, Kind: kind, Between: (turn + 2) % 5, Lsf: lsf.Index{One: (turn*5 + kind) % 16}}
	for k := range w.order() {
		f.Lsf.Two = append(f.Lsf.Two, (k*k+k*turn+turn)%9-4)
	}
	least, most := w.lags()
	for i := range w.subframes() {
		f.Gains = append(f.Gains, 26+(i*5+turn*3)%9)
		if kind == 2 {
			f.Ltps = append(f.Ltps, gain.Ltp{Lag: least + (i*37+turn*11)%(most-least+1), Taps: (i*3 + turn) % 8})
		}
	}
	if kind > 0 {
		f.Pulses = drawnPulses(drawn(uint32(turn), 17*w.samples()/16))
	}
	return f
}

// drawn are bytes by a rule that the values reckoned apart were drawn by too.
func drawn(seed uint32, n int) []byte {
	b := make([]byte, n)
	for i := range b {
		seed = (seed*1103515245 + 12345) % (1 << 31)
		b[i] = byte(seed >> 16)
	}
	return b
}

// drawnPulses are a block of every seventeen bytes: the first one tells how many, each other one where one of them stands, and its sign.
func drawnPulses(b []byte) []int64 {
	var l []int64
	for ; len(b) > 0; b = b[17:] {
		block := make([]int64, 16)
		for _, v := range b[1 : 1+b[0]%17] {
			block[v%16] += int64(v/16%2)*2 - 1
		}
		l = append(l, block...)
	}
	return l
}

// drawnBlock is sixteen pulses: in few places, in many, on one place, none.
func drawnBlock(r *rand.Rand) []int64 {
	l := make([]int64, 16)
	width := []int{16, 16, 8, 1}[r.IntN(4)]
	for range r.IntN(17) {
		l[r.IntN(width)] += r.Int64N(2)*2 - 1
	}
	return l
}

// drawnGood is a frame of any kind: its numbers are any, or such as are next to each other in a voice.
func (w form) drawnGood(r *rand.Rand) speech.Frame {
	f := speech.Frame{Fresh: r.IntN(6) == 0, Kind: r.IntN(3), Between: r.IntN(5), Lsf: lsf.Index{One: r.IntN(16), Two: make([]int, w.order())}}
	reach := r.IntN(5)
	for k := range f.Lsf.Two {
		f.Lsf.Two[k] = r.IntN(2*reach+1) - reach
	}
	least, most := w.lags()
	about := r.IntN(45)
	for range w.subframes() {
		f.Gains = append(f.Gains, []int{r.IntN(64), about + r.IntN(6), about + r.IntN(19), []int{0, 63, about}[r.IntN(3)]}[r.IntN(4)])
		if f.Kind == 2 {
			f.Ltps = append(f.Ltps, gain.Ltp{Lag: []int{least, most, least + r.IntN(most-least+1), least + r.IntN(20)}[r.IntN(4)], Taps: r.IntN(8)})
		}
	}
	if f.Kind > 0 {
		for range w.samples() / 16 {
			f.Pulses = append(f.Pulses, drawnBlock(r)...)
		}
	}
	return f
}

// drawnWrong breaks a frame at one place.
func (w form) drawnWrong(r *rand.Rand) speech.Frame {
	f := w.drawnGood(r)
	v := far[r.IntN(len(far))]
	switch r.IntN(9) {
	case 0:
		f.Kind = v
	case 1:
		f.Lsf.One = v
	case 2:
		f.Lsf.Two[r.IntN(len(f.Lsf.Two))] = v
	case 3:
		f.Lsf.Two = append(f.Lsf.Two, 0)
	case 4:
		f.Between = v
	case 5:
		f.Gains[r.IntN(len(f.Gains))] = v
	case 6:
		f.Gains = f.Gains[1:]
	case 7:
		f.Ltps = append(f.Ltps, gain.Ltp{Lag: 100})
	case 8:
		f.Pulses = append(f.Pulses, make([]int64, 16)...)
	}
	return f
}

func newPlayer(t *testing.T, rate int) *speech.Player {
	t.Helper()
	p, x := speech.New(rate)
	if p == nil || x != api.OK {
		t.Fatalf("P14.3: New(%d): %d", rate, x)
	}
	return p
}

// mustPlay plays a good frame: by a Player and by its history.
func mustPlay(t *testing.T, p *speech.Player, h *history, ms int, f speech.Frame) []int64 {
	t.Helper()
	want := h.play(ms, f)
	l, x := p.Play(ms, f)
	if x != api.OK || !slices.Equal(l, want) {
		t.Fatalf("P14.3: at %d, %d ms: Play(%+v): %d, %d, want %d", h.rate, ms, f, l, x, want)
	}
	if p.Gain() != h.gain() {
		t.Fatalf("P14.3: Gain behind Play: %d, want %d", p.Gain(), h.gain())
	}
	return l
}

func mustSame(t *testing.T, what string, p, q *speech.Player, want bool) {
	t.Helper()
	if p.Same(q) != want || q.Same(p) != want {
		t.Fatalf("P14.3: %s: Same is %t, %t, want %t", what, p.Same(q), q.Same(p), want)
	}
	if !p.Same(p) || !q.Same(q) {
		t.Fatalf("P14.3: %s: a Player is not the same as itself", what)
	}
}

// mustNotPlay is refused, and the Player stays as it was.
func mustNotPlay(t *testing.T, what string, p *speech.Player, ms int, f speech.Frame) {
	t.Helper()
	was := p.Copy()
	if l, x := p.Play(ms, f); x != api.EARG || l != nil {
		t.Fatalf("P14.3: %s: %d samples, %d, want EARG", what, len(l), x)
	}
	mustSame(t, what+" is refused", p, was, true)
	if p.Gain() != was.Gain() {
		t.Fatalf("P14.3: %s: Gain behind what is refused: %d, was %d", what, p.Gain(), was.Gain())
	}
}
