package speech_test

import (
	"encoding/binary"
	"hash/fnv"
	"slices"
	"testing"

	"madrigal/gain"
	"madrigal/lsf"
	"madrigal/rc"
	"madrigal/renc"
	"madrigal/speech"
)

// drawnFrame is a good one, by a rule that the values reckoned apart were drawn by too.
func (w form) drawnFrame(seed uint32) speech.Frame {
	b := drawn(seed, 500)
	f := speech.Frame{Fresh: b[0]%5 == 0, Kind: int(b[1] % 3), Lsf: lsf.Index{One: int(b[2] % 16)}, Between: int(b[20] % 5)}
	for k := range w.order() {
		f.Lsf.Two = append(f.Lsf.Two, int(b[3+k]%9)-4)
	}
	least, most := w.lags()
	for i := range w.subframes() {
		g := 25 + int(b[21+i]%20)
		if b[25]%4 == 0 {
			g = int(b[21+i] % 64)
		}
		f.Gains = append(f.Gains, g)
		if f.Kind == 2 {
			f.Ltps = append(f.Ltps, gain.Ltp{Lag: least + (int(b[26+2*i])*256+int(b[27+2*i]))%(most-least+1), Taps: int(b[34+i] % 8)})
		}
	}
	if f.Kind > 0 {
		f.Pulses = drawnPulses(b[40 : 40+17*w.samples()/16])
	}
	return f
}

// flat is all that a frame tells, in order.
func flat(f speech.Frame) []int64 {
	l := []int64{0, int64(f.Kind), int64(f.Lsf.One)}
	if f.Fresh {
		l[0] = 1
	}
	add := func(v int) { l = append(l, int64(v)) }
	for _, v := range f.Lsf.Two {
		add(v)
	}
	add(f.Between)
	for _, g := range f.Gains {
		add(g)
	}
	for _, r := range f.Ltps {
		add(r.Lag)
		add(r.Taps)
	}
	return append(l, f.Pulses...)
}

func sumOf(l []int64) uint64 {
	h := fnv.New64a()
	var b [8]byte
	for _, v := range l {
		binary.LittleEndian.PutUint64(b[:], uint64(v))
		h.Write(b[:])
	}
	return h.Sum64()
}

// Values reckoned apart from the program, in another language, without the layers below: what is read of drawn bytes, what is told of drawn gains, and what both sound like.
func TestDrawn(t *testing.T) {
	for _, c := range []struct {
		form
		first, count       uint32
		read, told, played uint64
	}{
		{form{8000, 10}, 1, 60, 1321445645893035797, 6176855649855256616, 13813229354402343906},
		{form{8000, 20}, 1, 60, 13184310931280262524, 12437912490951256840, 1196268116250738093},
		{form{16000, 10}, 1, 60, 14857209381393263749, 6176855649855256616, 4229893821270802357},
		{form{16000, 20}, 1, 60, 16902857183611589068, 12437912490951256840, 1766608461718216448},
		{form{8000, 10}, 5000, 150, 972571478610839470, 10033352589406192928, 11072653031415230515},
		{form{8000, 20}, 5000, 150, 10681356087178220803, 13298462282686537145, 16021936924075278873},
		{form{16000, 10}, 5000, 150, 12672120249211332427, 10033352589406192928, 12688462014955094110},
		{form{16000, 20}, 5000, 150, 11487086797028685115, 13298462282686537145, 2121598373700252207},
	} {
		p := newPlayer(t, c.rate)
		var read, told, played []int64
		for seed := c.first; seed < c.first+c.count; seed++ {
			f := c.drawnFrame(seed)
			was := int(seed%80) - 8
			l, _ := p.Play(c.ms, f)
			played = append(played, l...)
			g, _ := speech.Write(renc.New(), c.rate, c.ms, was, f)
			for _, v := range g.Gains {
				told = append(told, int64(v))
			}
			d := rc.New(drawn(seed+7, int(seed%200)))
			f, _ = speech.Read(d, c.rate, c.ms, was)
			bad := int64(0)
			if d.Bad() {
				bad = 1
			}
			read = append(append(read, flat(f)...), int64(d.Tell()), bad)
			l, _ = newPlayer(t, c.rate).Play(c.ms, f)
			played = append(played, l...)
		}
		if sumOf(read) != c.read || sumOf(told) != c.told || sumOf(played) != c.played {
			t.Errorf("P14: %v, %d frames from %d on: checksums %d, %d, %d, want %d, %d, %d", c.form, c.count, c.first, sumOf(read), sumOf(told), sumOf(played), c.read, c.told, c.played)
		}
	}
}

// Three frames of one Player, reckoned apart: the first samples of each half, and a checksum of all.
func TestPlayedFrames(t *testing.T) {
	for _, rate := range []int{8000, 16000} {
		p := newPlayer(t, rate)
		w := form{rate, 10}
		least, _ := w.lags()
		for n, c := range []struct {
			kind, one, between int
			two                []int
			narrow, wide       [2][]int64
			sums               [2]uint64
		}{
			{
				2, 6, 1, []int{2, -3, 0, 1, -4, 4, 0, -1, 3, -2, 1, 0, 2, -1, 0, 4},
				[2][]int64{{0, -816, 819, -26, -16, 25, 34, -26, 53, 68, -128, -26, 50, -830}, {1055, 445, 186, -657, 304, -100, -891, -408, -124, -831, 135, -565, -39, 161}},
				[2][]int64{{0, -816, 830, -27, 2, -4, -7, 0, 59, -61, 63, -72, 108, -848}, {1444, 349, 305, -100, -787, 307, 7, -26, 768, -44, -338, -800, -853, -1407}},
				[2]uint64{15679140699865010047, 14770155514977380407},
			},
			{
				0, 12, 3, make([]int, 16),
				[2][]int64{{24, 79, -1, 33, 123, -38, -129, -89, 1, 6, 16, -13, -6, 30}, make([]int64, 14)},
				[2][]int64{{43, 51, -79, 96, 258, 32, 151, -8, -57, 177, 36, 83, -10, -61}, make([]int64, 14)},
				[2]uint64{17280079582379700083, 12896631154737094897},
			},
			{
				1, 9, 0, []int{1, 1, -1, -1, 1, 1, -1, -1, 1, 1, -1, -1, 1, 1, -1, -1},
				[2][]int64{{0, -816, -797, 22, 977, 269, 868, -212, -55, -60, -204, 35, -15, 814}, {-23, 24, -71, 444, -87, 7, -23, 152, -120, 38, 36, -781, -100, 42}},
				[2][]int64{{0, -816, -822, 9, 857, 28, 938, 240, 32, -213, -106, -61, -66, 938}, {643, 869, -343, 423, -381, -158, 234, -257, -93, -595, -71, 87, 520, -315}},
				[2]uint64{9808377952951253362, 14324321022969559150},
			},
		} {
			f := speech.Frame{Kind: c.kind, Lsf: lsf.Index{One: c.one, Two: c.two[:w.order()]}, Between: c.between, Gains: []int{50, 46}}
			if c.kind == 2 {
				f.Ltps = []gain.Ltp{{Lag: least + 4, Taps: 1}, {Lag: least + 9, Taps: 5}}
			}
			if c.kind > 0 {
				f.Pulses = drawnPulses(drawn(uint32(c.kind), 17*w.samples()/16))
			}
			want, sum := c.narrow, c.sums[0]
			if rate == 16000 {
				want, sum = c.wide, c.sums[1]
			}
			l, _ := p.Play(w.ms, f)
			half := w.samples() / 2
			if len(l) != 2*half || !slices.Equal(l[:14], want[0]) || !slices.Equal(l[half:half+14], want[1]) || sumOf(l) != sum {
				t.Errorf("P14.3: at %d, frame %d: %d, want %d .. and %d .., checksum %d, want %d", rate, n, l, want[0], want[1], sumOf(l), sum)
			}
		}
	}
}
