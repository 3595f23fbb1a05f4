package toc_test

import (
	"bytes"
	"math/rand/v2"
	"slices"

	"madrigal/api"
	"madrigal/toc"
)

// noForm is what the reference below panics with.
type noForm struct{}

func must(holds bool) {
	if !holds {
		panic(noForm{})
	}
}

// reading goes through bytes from at to end.
type reading struct {
	b       []byte
	at, end int
}

func (r *reading) one() int {
	must(r.at < r.end)
	r.at++
	return int(r.b[r.at-1])
}

func (r *reading) length() int {
	n := r.one()
	if n > 251 {
		n += 4 * r.one()
	}
	must(n <= r.end-r.at)
	return n
}

func (r *reading) frame(n int) []byte {
	must(n >= 0 && n <= r.end-r.at && n <= 1275)
	r.at += n
	return slices.Clone(r.b[r.at-n : r.at])
}

// parsed says what Parse must answer: the chapter's words, read step by step.
func parsed(b []byte) (p toc.Packet, ok bool) {
	defer func() {
		if v := recover(); v != nil {
			_ = v.(noForm)
			p, ok = toc.Packet{}, false
		}
	}()
	r := &reading{b: b, end: len(b)}
	first := r.one()
	p.Config, p.Channels = first>>3, first>>2&1+1
	must(p.Config < 12)
	frames, lengths := 1, false
	switch first & 3 {
	case 1:
		frames = 2
	case 2:
		frames, lengths = 2, true
	case 3:
		v := r.one()
		frames, lengths = v&63, v&128 != 0
		must(frames > 0 && frames*(p.Config&1+1) <= 12)
		if v&64 != 0 {
			for more := true; more; {
				v := r.one()
				more = v == 255
				p.Pad += min(v, 254)
			}
			must(p.Pad <= r.end-r.at)
			r.end -= p.Pad
		}
	}
	var sizes []int
	for i := 1; lengths && i < frames; i++ {
		sizes = append(sizes, r.length())
	}
	if !lengths {
		must((r.end-r.at)%frames == 0)
		sizes = slices.Repeat([]int{(r.end - r.at) / frames}, frames-1)
	}
	for _, n := range sizes {
		p.Frames = append(p.Frames, r.frame(n))
	}
	p.Frames = append(p.Frames, r.frame(r.end-r.at))
	return p, true
}

// form is a way to lay a packet's frames down; Pack chooses one, Parse takes all of them.
type form struct {
	code             int
	lengths, padding bool
}

// forms tells all that a packet can be laid down in.
func forms(p toc.Packet) []form {
	var l []form
	if p.Pad == 0 && len(p.Frames) == 1 {
		l = append(l, form{code: 0})
	}
	if p.Pad == 0 && len(p.Frames) == 2 {
		l = append(l, form{code: 2, lengths: true})
		if allAlike(p) {
			l = append(l, form{code: 1})
		}
	}
	for _, padding := range []bool{true, false} {
		if p.Pad > 0 && !padding {
			continue
		}
		l = append(l, form{3, true, padding})
		if allAlike(p) {
			l = append(l, form{3, false, padding})
		}
	}
	return l
}

// chosen tells the one of them that Pack takes.
func chosen(p toc.Packet) form {
	switch n := len(p.Frames); {
	case p.Pad == 0 && n == 1:
		return form{code: 0}
	case p.Pad == 0 && n == 2 && allAlike(p):
		return form{code: 1}
	case p.Pad == 0 && n == 2:
		return form{code: 2, lengths: true}
	}
	return form{3, !allAlike(p), p.Pad > 0}
}

func allAlike(p toc.Packet) bool {
	return !slices.ContainsFunc(p.Frames, func(f []byte) bool { return len(f) != len(p.Frames[0]) })
}

// laid lays a packet down: the bytes of the padding are fill.
func laid(p toc.Packet, f form, fill byte) []byte {
	var b bytes.Buffer
	first := p.Config<<3 | f.code
	if p.Channels == 2 {
		first |= 4
	}
	b.WriteByte(byte(first))
	if f.code == 3 {
		v := len(p.Frames)
		if f.lengths {
			v |= 128
		}
		if f.padding {
			v |= 64
		}
		b.WriteByte(byte(v))
	}
	if f.padding {
		b.Write(padBytes(p.Pad))
	}
	for i := 0; f.lengths && i+1 < len(p.Frames); i++ {
		b.Write(lengthBytes(len(p.Frames[i])))
	}
	for _, f := range p.Frames {
		b.Write(f)
	}
	b.Write(bytes.Repeat([]byte{fill}, p.Pad))
	return b.Bytes()
}

func padBytes(pad int) []byte { return append(bytes.Repeat([]byte{255}, pad/254), byte(pad%254)) }

// lengthBytes seeks the bytes that stand for a length.
func lengthBytes(n int) []byte {
	if n <= 251 {
		return []byte{byte(n)}
	}
	for first := 252; first < 256; first++ {
		for second := range 256 {
			if first+4*second == n {
				return []byte{byte(first), byte(second)}
			}
		}
	}
	panic("no such length")
}

func sample(r *rand.Rand, n int) []byte {
	b := make([]byte, n)
	for i := range b {
		b[i] = byte(r.Uint32())
	}
	return b
}

// the lengths and paddings about which something changes.
var (
	sharpSizes = []int{0, 1, 2, 3, 250, 251, 252, 253, 254, 255, 256, 257, 511, 512, 1020, 1271, 1272, 1273, 1274, 1275}
	sharpPads  = []int{0, 1, 2, 252, 253, 254, 255, 256, 507, 508, 509, 761, 762, 763, 999, 1000}
)

func drawnSize(r *rand.Rand) int {
	switch r.IntN(4) {
	case 0:
		return sharpSizes[r.IntN(len(sharpSizes))]
	case 1:
		return r.IntN(api.MaxFrame + 1)
	}
	return r.IntN(6)
}

func drawnPad(r *rand.Rand) int {
	switch r.IntN(4) {
	case 0:
		return sharpPads[r.IntN(len(sharpPads))]
	case 1:
		return r.IntN(1001)
	}
	return 0
}

// drawn is a good packet.
func drawn(r *rand.Rand) toc.Packet {
	p := toc.Packet{Config: r.IntN(12), Channels: 1 + r.IntN(2), Pad: drawnPad(r)}
	most := 12
	if p.Config%2 == 1 {
		most = 6
	}
	count := 1 + r.IntN(most)
	if r.IntN(2) == 0 {
		count = min(count, 1+r.IntN(3))
	}
	n, same := drawnSize(r), r.IntN(2) == 0
	for range count {
		if !same {
			n = drawnSize(r)
		}
		p.Frames = append(p.Frames, sample(r, n))
	}
	return p
}

// equal: nil and an empty list are one.
func equal(p, q toc.Packet) bool {
	return p.Config == q.Config && p.Channels == q.Channels && p.Pad == q.Pad && slices.EqualFunc(p.Frames, q.Frames, bytes.Equal)
}
