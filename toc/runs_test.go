package toc_test

import (
	"bytes"
	"math/rand/v2"
	"slices"
	"strconv"
	"strings"
	"testing"

	"madrigal/api"
	"madrigal/toc"
)

// told says what a packet is, in short.
func told(p toc.Packet) string {
	var s strings.Builder
	s.WriteString("config " + strconv.Itoa(p.Config) + ", " + strconv.Itoa(p.Channels) + " channels, pad " + strconv.Itoa(p.Pad) + ", frames of")
	for i, f := range p.Frames {
		if i > 13 {
			s.WriteString(" ..")
			break
		}
		s.WriteString(" " + strconv.Itoa(len(f)))
	}
	return s.String()
}

// agree holds Parse against the reference, and Good and Pack too where there is a packet.
func agree(t *testing.T, b []byte) {
	t.Helper()
	want, ok := parsed(b)
	if !ok {
		mustRefuse(t, b)
		return
	}
	mustParse(t, b, want)
	if want.Pad > 1000 {
		mustNotPack(t, want)
		return
	}
	mustPack(t, want, laid(want, chosen(want), 0))
}

func TestRunsOfPackets(t *testing.T) {
	r := rand.New(rand.NewPCG(5, 1))
	for range 8000 {
		p := drawn(r)
		mustPack(t, p, laid(p, chosen(p), 0))
		b, _ := toc.Pack(p)
		if q, x := toc.Parse(b); x != api.OK || !equal(p, q) {
			t.Fatalf("P5.3: Parse of Pack of %s: %s, %d", told(p), told(q), x)
		}
		for _, f := range forms(p) {
			mustParse(t, laid(p, f, byte(r.Uint32())), p)
		}
		if t.Failed() {
			t.FailNow()
		}
	}
}

// Every config, code, number of channels; with and without lengths and padding.
func TestEachKind(t *testing.T) {
	seen := map[form]int{}
	for config := range 12 {
		for channels := 1; channels < 3; channels++ {
			for _, l := range [][][]byte{frames(7), frames(7, 7), frames(7, 8), frames(8, 7), frames(3, 3, 3), frames(3, 3, 4), frames(4, 3, 3), frames(0, 0, 0, 0), frames(1, 300, 2, 252)} {
				for _, pad := range []int{0, 1, 253, 254, 255, 508, 1000} {
					p := toc.Packet{Config: config, Channels: channels, Frames: l, Pad: pad}
					seen[chosen(p)]++
					mustPack(t, p, laid(p, chosen(p), 0))
					for _, f := range forms(p) {
						mustParse(t, laid(p, f, 200), p)
					}
				}
			}
		}
	}
	if len(seen) != 7 {
		t.Errorf("P5.2: %d kinds were packed", len(seen))
	}
}

// All bytes that are few: those of up to two, and those of three and four that have a config.
func TestAllFewBytes(t *testing.T) {
	agree(t, nil)
	for a := range 256 {
		agree(t, []byte{byte(a)})
		for b := range 256 {
			agree(t, []byte{byte(a), byte(b)})
		}
	}
	firsts := []byte{0, 1, 2, 3, 7, 11, 90, 95, 96}
	for _, first := range firsts {
		for a := range 256 {
			for b := range 256 {
				agree(t, []byte{first, byte(a), byte(b)})
			}
		}
	}
	few := []byte{0, 1, 2, 3, 4, 64, 65, 66, 128, 129, 130, 131, 192, 193, 194, 195, 252, 255}
	for _, first := range firsts {
		for _, a := range few {
			for _, b := range few {
				for _, c := range few {
					agree(t, []byte{first, a, b, c})
					agree(t, []byte{first, a, b, c, c, b, a})
				}
			}
		}
	}
}

func TestAnyBytes(t *testing.T) {
	r := rand.New(rand.NewPCG(5, 2))
	for range 60000 {
		b := sample(r, r.IntN(40))
		if r.IntN(4) > 0 && len(b) > 1 {
			b[0] %= 96
			b[1] &= byte(r.Uint32()) | 192
		}
		agree(t, b)
	}
	for range 2000 {
		b := sample(r, r.IntN(6000))
		if len(b) > 1 {
			b[0] %= 96
			b[1] &= byte(r.Uint32()) | 192
		}
		agree(t, b)
	}
}

// The bytes of packets, cut short, changed at one place, lengthened: there and at the bytes about it that tell the form.
func TestBytesThatAreNotQuiteAPacket(t *testing.T) {
	r := rand.New(rand.NewPCG(5, 3))
	for range 3000 {
		p := drawn(r)
		l := forms(p)
		b := laid(p, l[r.IntN(len(l))], byte(r.Uint32()))
		for range 4 {
			agree(t, b[:r.IntN(len(b)+1)])
			agree(t, b[:r.IntN(min(len(b), 30)+1)])
			agree(t, append(slices.Clone(b), sample(r, 1+r.IntN(20))...))
			changed := slices.Clone(b)
			changed[r.IntN(len(b))] = byte(r.Uint32())
			agree(t, changed)
			changed = slices.Clone(b)
			changed[r.IntN(min(len(b), 16))] += byte(2*r.IntN(2) - 1)
			agree(t, changed)
			at := r.IntN(min(len(b), 16))
			agree(t, slices.Delete(slices.Clone(b), at, at+1))
			agree(t, slices.Insert(slices.Clone(b), at, byte(r.Uint32())))
		}
		if t.Failed() {
			t.FailNow()
		}
	}
}

// Each list stands in a bigger one, so that what is written behind its end is seen too.
func withRoom(r *rand.Rand, b []byte) (list, whole []byte) {
	whole = append(append(sample(r, 5), b...), sample(r, 9)...)
	return whole[5 : 5+len(b)], whole
}

func TestParseLeavesAndKeepsNothing(t *testing.T) {
	r := rand.New(rand.NewPCG(5, 4))
	for range 1500 {
		p := drawn(r)
		l := forms(p)
		b, whole := withRoom(r, laid(p, l[r.IntN(len(l))], 7))
		if r.IntN(3) == 0 {
			b = b[:r.IntN(len(b)+1)]
		}
		before, want := slices.Clone(whole), slices.Clone(b)
		got, x := toc.Parse(b)
		again, _ := toc.Parse(b)
		if !bytes.Equal(whole, before) {
			t.Fatalf("P5.1: Parse of %s changed what it was handed", told(p))
		}
		if x != api.OK {
			continue
		}
		for i := range whole {
			whole[i] ^= 255
		}
		keep, _ := parsed(want)
		if !equal(got, keep) {
			t.Fatalf("P5.1: Parse of %s keeps what it was handed", told(p))
		}
		fillAll(got.Frames, 99)
		if !equal(again, keep) {
			t.Fatalf("P5.1: two answers of Parse of %s share memory", told(p))
		}
		for i := range again.Frames {
			fillAll(again.Frames[i:i+1], 55)
			keep.Frames[i] = again.Frames[i]
			if !equal(again, keep) {
				t.Fatalf("P5.1: two frames of %s share memory", told(p))
			}
		}
		for i := range whole {
			if whole[i] != before[i]^255 {
				t.Fatalf("P5.1: a frame of %s shares memory with what was handed in", told(p))
			}
		}
		got.Frames[:cap(got.Frames)][0] = nil
		if again.Frames[0] == nil {
			t.Fatalf("P5.1: two answers of Parse of %s share their lists", told(p))
		}
	}
}

// fillAll overwrites frames, spare room included.
func fillAll(l [][]byte, v byte) {
	for _, f := range l {
		f = f[:cap(f)]
		for i := range f {
			f[i] = v
		}
	}
}

func TestPackLeavesAndKeepsNothing(t *testing.T) {
	r := rand.New(rand.NewPCG(5, 5))
	for range 1500 {
		p := drawn(r)
		want := laid(p, chosen(p), 0)
		room := make([][]byte, 0, len(p.Frames)+3)
		spare := sample(r, 3)
		var wholes, before [][]byte
		for _, f := range p.Frames {
			list, whole := withRoom(r, f)
			room = append(room, list)
			wholes = append(wholes, whole)
			before = append(before, slices.Clone(whole))
		}
		behind := room[:cap(room)]
		for i := len(room); i < len(behind); i++ {
			behind[i] = spare
		}
		p.Frames = room
		b, x := toc.Pack(p)
		again, _ := toc.Pack(p)
		p.Pad += 1001
		toc.Pack(p)
		toc.Good(p)
		p.Pad -= 1001
		if x != api.OK || !slices.EqualFunc(wholes, before, bytes.Equal) || len(room) != len(p.Frames) {
			t.Fatalf("P5.2: Pack of %s changed what it was handed", told(p))
		}
		for i, f := range behind {
			if i < len(room) && (len(f) != len(before[i])-14 || cap(f) > 0 && &f[:1][0] != &wholes[i][5]) || i >= len(room) && &f[0] != &spare[0] {
				t.Fatalf("P5.2: Pack of %s changed the list of frames", told(p))
			}
		}
		fillAll([][]byte{b}, 66)
		if !slices.EqualFunc(wholes, before, bytes.Equal) || !bytes.Equal(again, want) {
			t.Fatalf("P5.2: what Pack of %s answers shares memory", told(p))
		}
		fillAll(wholes, 33)
		if !bytes.Equal(again, want) {
			t.Fatalf("P5.2: Pack of %s keeps what it was handed", told(p))
		}
	}
}
