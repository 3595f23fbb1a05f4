package speech_test

import (
	"slices"

	"madrigal/gain"
	"madrigal/lpc"
	"madrigal/lsf"
	"madrigal/pulse"
	"madrigal/rc"
	"madrigal/renc"
	"madrigal/speech"
	"madrigal/synth"
)

// Chapter 14 read a second time, out of the layers below by their exported calls: the tables of chapter 2 are written out once more, a frame is played sample by sample, and of the frame ahead nothing is carried on but the frame itself.

var (
	kinds = []int{192, 96, 0}
	ones  = []int{240, 224, 208, 192, 176, 160, 144, 128, 112, 96, 80, 64, 48, 32, 16, 0}
	twos  = []int{253, 244, 222, 170, 86, 34, 12, 3, 0}
	taps  = [][5]int64{{13, 22, 39, 23, 12}, {-1, 36, 64, 27, -6}, {4, 6, 24, 7, 5}, {-2, 6, 118, 7, -3}, {2, 10, 70, 15, 0}, {-9, 30, 80, 34, -10}, {0, 0, 96, 0, 0}, {5, 29, 50, 29, 5}}

	// evenOf are the frequencies ahead of the first frame, by order.
	evenOf = map[int][]int64{
		10: {2978, 5957, 8936, 11915, 14894, 17873, 20852, 23831, 26810, 29789},
		16: {1927, 3855, 5782, 7710, 9637, 11565, 13492, 15420, 17347, 19275, 21202, 23130, 25057, 26985, 28912, 30840},
	}
)

// form is a rate and a length that may be.
type form struct{ rate, ms int }

var forms = []form{{8000, 10}, {8000, 20}, {16000, 10}, {16000, 20}}

func (f form) order() int {
	if f.rate == 8000 {
		return 10
	}
	return 16
}

// subframe is how many samples one has.
func (f form) subframe() int { return map[int]int{8000: 40, 16000: 80}[f.rate] }

func (f form) subframes() int { return map[int]int{10: 2, 20: 4}[f.ms] }

func (f form) samples() int { return f.rate * f.ms / 1000 }

func (f form) lags() (least, most int) {
	if f.rate == 8000 {
		return 16, 144
	}
	return 32, 288
}

func outside(v, least, most int) bool { return v < least || v > most }

// goodApart looks for what is not good.
func goodApart(rate, ms int, f speech.Frame) bool {
	w := form{rate, ms}
	if !slices.Contains(forms, w) || outside(f.Kind, 0, 2) || !lsf.Good(w.order(), f.Lsf) || outside(f.Between, 0, 4) {
		return false
	}
	ltps, pulses := 0, 0
	if f.Kind == 2 {
		ltps = w.subframes()
	}
	if f.Kind > 0 {
		pulses = w.samples()
	}
	if len(f.Gains) != w.subframes() || len(f.Ltps) != ltps || len(f.Pulses) != pulses {
		return false
	}
	if slices.ContainsFunc(f.Gains, func(g int) bool { return outside(g, 0, 63) }) {
		return false
	}
	least, most := w.lags()
	if slices.ContainsFunc(f.Ltps, func(l gain.Ltp) bool { return outside(l.Lag, least, most) || outside(l.Taps, 0, 7) }) {
		return false
	}
	return pulses == 0 || pulse.Good(f.Pulses)
}

// readApart reads a frame by the calls of the layers below.
func (w form) readApart(d *rc.Dec, was int) speech.Frame {
	f := speech.Frame{}
	f.Fresh = d.Bits(1) == 1
	f.Kind = d.Symbol(kinds)
	f.Lsf.One = d.Symbol(ones)
	for range w.order() {
		f.Lsf.Two = append(f.Lsf.Two, d.Symbol(twos)-4)
	}
	f.Between = d.Uint(5)
	if f.Fresh {
		f.Gains = append(f.Gains, gain.ReadFirst(d))
	} else {
		f.Gains = append(f.Gains, gain.ReadNext(d, was))
	}
	for len(f.Gains) < w.subframes() {
		f.Gains = append(f.Gains, gain.ReadNext(d, f.Gains[len(f.Gains)-1]))
	}
	for f.Kind == 2 && len(f.Ltps) < w.subframes() {
		f.Ltps = append(f.Ltps, gain.ReadLtp(d, w.rate))
	}
	if f.Kind > 0 {
		f.Pulses, _ = pulse.Read(d, w.samples())
	}
	return f
}

// writeApart writes one that is good by the calls of the layers below, and tells what is read then.
func (w form) writeApart(e *renc.Enc, was int, f speech.Frame) speech.Frame {
	g := cloned(f)
	if f.Fresh {
		e.Bits(1, 1)
	} else {
		e.Bits(0, 1)
	}
	e.Symbol(f.Kind, kinds)
	e.Symbol(f.Lsf.One, ones)
	for _, v := range f.Lsf.Two {
		e.Symbol(v+4, twos)
	}
	e.Uint(f.Between, 5)
	if f.Fresh {
		gain.WriteFirst(e, f.Gains[0])
	} else {
		g.Gains[0], _ = gain.WriteNext(e, f.Gains[0], was)
	}
	for i := 1; i < len(f.Gains); i++ {
		g.Gains[i], _ = gain.WriteNext(e, f.Gains[i], g.Gains[i-1])
	}
	for _, l := range f.Ltps {
		gain.WriteLtp(e, w.rate, l)
	}
	if f.Kind > 0 {
		pulse.Write(e, f.Pulses)
	}
	return g
}

// history is a Player: its rate, its voice, and the frame ahead.
type history struct {
	rate  int
	voice *synth.Voice
	ahead *speech.Frame
}

func newHistory(rate int) *history { return &history{rate: rate, voice: synth.New()} }

func (h *history) reset() { h.voice, h.ahead = synth.New(), nil }

func (h *history) copied() *history {
	return &history{rate: h.rate, voice: h.voice.Copy(), ahead: h.ahead}
}

func (h *history) gain() int {
	if h.ahead == nil {
		return 20
	}
	return h.ahead.Gains[len(h.ahead.Gains)-1]
}

func (h *history) frequencies() []int64 {
	order := form{rate: h.rate}.order()
	if h.ahead == nil {
		return slices.Clone(evenOf[order])
	}
	l, _ := lsf.Decode(order, h.ahead.Lsf)
	return l
}

func (h *history) same(g *history) bool {
	return h.rate == g.rate && h.gain() == g.gain() && slices.Equal(h.frequencies(), g.frequencies()) && h.voice.Same(g.voice)
}

// play runs each sample by itself, with what holds at its place.
func (h *history) play(ms int, f speech.Frame) []int64 {
	if f.Fresh {
		h.reset()
	}
	w := form{h.rate, ms}
	l, _ := lsf.Decode(w.order(), f.Lsf)
	between, _ := lsf.Between(h.frequencies(), l, f.Between)
	first, _ := lpc.From(between)
	second, _ := lpc.From(l)
	var all []int64
	for n := range w.samples() {
		at := n / w.subframe()
		p := synth.Part{Pulses: []int64{0}, Loud: gain.Loud(f.Gains[at]), Filter: first}
		if 2*n >= w.samples() {
			p.Filter = second
		}
		if f.Kind > 0 {
			p.Pulses[0] = f.Pulses[n]
		}
		if f.Kind == 2 {
			p.Lag, p.Taps = f.Ltps[at].Lag, taps[f.Ltps[at].Taps]
		}
		o, _ := h.voice.Run(p)
		all = append(all, synth.Pcm(o)...)
	}
	f = cloned(f)
	h.ahead = &f
	return all
}

// cloned shares no list with a frame; of an empty one it has nil.
func cloned(f speech.Frame) speech.Frame {
	f.Lsf.Two = append([]int(nil), f.Lsf.Two...)
	f.Gains = append([]int(nil), f.Gains...)
	f.Ltps = append([]gain.Ltp(nil), f.Ltps...)
	f.Pulses = append([]int64(nil), f.Pulses...)
	return f
}

// equal: nil and an empty list are one.
func equal(f, g speech.Frame) bool {
	return f.Fresh == g.Fresh && f.Kind == g.Kind && f.Lsf.One == g.Lsf.One && slices.Equal(f.Lsf.Two, g.Lsf.Two) && f.Between == g.Between &&
		slices.Equal(f.Gains, g.Gains) && slices.Equal(f.Ltps, g.Ltps) && slices.Equal(f.Pulses, g.Pulses)
}

// isZero tells whether a frame is what stands beside an error.
func isZero(f speech.Frame) bool { return equal(f, speech.Frame{}) }
