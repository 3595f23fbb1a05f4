package vad_test

import (
	"math/big"
	"slices"
	"testing"

	"madrigal/vad"
)

// Chapter 13 read a second time: sums of any length, and no state that is carried on: a floor and an answer are told from all levels that were heard. Nothing of fix is taken.

func within16(v int64) int64 {
	switch {
	case v > 32767:
		return 32767
	case v < -32768:
		return -32768
	}
	return v
}

// powerApart is 1 and the middle of the squares, down; 1 of no samples.
func powerApart(x []int64) *big.Int {
	sum, many := new(big.Int), int64(0)
	for i := 0; i < len(x) && i < 960; i++ {
		v := big.NewInt(within16(x[i]))
		sum.Add(sum, v.Mul(v, v))
		many++
	}
	if many > 0 {
		sum.Div(sum, big.NewInt(many))
	}
	return sum.Add(sum, big.NewInt(1))
}

// logApart is fix's Log2: what has n bits is a fraction from 1 to 2, squared eight times.
func logApart(a *big.Int) int64 {
	if a.Sign() < 1 {
		return 0
	}
	n := int64(a.BitLen() - 1)
	m := new(big.Int).Lsh(a, 30)
	m.Rsh(m, uint(n))
	for range 8 {
		m.Mul(m, m).Rsh(m, 30)
		n = 2*n + int64(m.Bit(31))
		m.Rsh(m, m.Bit(31))
	}
	return n
}

// levelApart needs no row of its own for no samples: the logarithm of 1 is 0.
func levelApart(x []int64) int64 { return logApart(powerApart(x)) }

// heard is the levels of all sounds so far.
type heard []int64

// floor is the least of what each level would have risen to since.
func (h heard) floor() int64 {
	if len(h) == 0 {
		return -1
	}
	var l []int64
	for i, v := range h {
		l = append(l, v+8*int64(len(h)-1-i))
	}
	return slices.Min(l)
}

// loud tells whether the last sound by itself is speech.
func (h heard) loud() bool { return len(h) > 0 && h[len(h)-1]-h.floor() > 512 }

// speech is the last sound, if it is loud or one of the four ahead of it was.
func (h heard) speech() bool {
	for behind := range 5 {
		if behind < len(h) && h[:len(h)-behind].loud() {
			return true
		}
	}
	return false
}

// pair is a Meter and what it was told.
type pair struct {
	m *vad.Meter
	h heard
}

func newPair() *pair { return &pair{m: vad.New()} }

// step listens to a sound of some level, and holds what the Meter tells against what was heard.
func (p *pair) step(t *testing.T, x []int64) bool {
	t.Helper()
	v := levelApart(x)
	if l := vad.Level(x); l != v {
		t.Fatalf("P13.1: Level of %d samples: %d, want %d", len(x), l, v)
	}
	p.h = append(p.h, v)
	said := p.m.Step(x)
	if want := p.h.speech(); said != want {
		t.Fatalf("P13.1: Step behind the levels %d: %t, want %t", p.h, said, want)
	}
	p.floor(t)
	return said
}

func (p *pair) floor(t *testing.T) {
	t.Helper()
	if f, want := p.m.Floor(), p.h.floor(); f != want {
		t.Fatalf("P13.1: Floor behind the levels %d: %d, want %d", p.h, f, want)
	}
}

// each listens to several sounds.
func (p *pair) each(t *testing.T, l ...[]int64) {
	t.Helper()
	want := []bool{}
	for _, x := range l {
		p.h = append(p.h, levelApart(x))
		want = append(want, p.h.speech())
	}
	if said := p.m.Each(l...); !slices.Equal(said, want) {
		t.Fatalf("P13.1: Each of the last %d of the levels %d: %t, want %t", len(l), p.h, said, want)
	}
	p.floor(t)
}
