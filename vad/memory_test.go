package vad_test

import (
	"slices"
	"testing"

	"madrigal/vad"
)

// filler stands in spare room.
const filler = 31

// guarded is a list with spare room behind it, which nobody may write to.
func guarded(l []int64) []int64 {
	return append(slices.Clip(slices.Clone(l)), flat(1000, filler)...)[:len(l)]
}

// untouched tells whether a guarded list and its spare room are as they were.
func untouched(l, was []int64) bool {
	return slices.Equal(l, was) && slices.Equal(l[len(l):cap(l)][:1000], flat(1000, filler))
}

// given are sounds of all sizes: quiet, loud, far beyond 16 bits.
func given() [][]int64 {
	l := [][]int64{{}, {0}, {5}, {-1 << 50, 1 << 50}, flat(960, 3), flat(961, -1<<40), flat(2500, 40000)}
	for _, n := range sizes[:len(sizes)-1] {
		l = append(l, noise(uint32(n), n, 200), noise(uint32(n), n, 1<<40))
	}
	return l
}

// What is handed in stays, spare room too.
func TestListsStay(t *testing.T) {
	m := vad.New()
	for _, was := range given() {
		l := guarded(was)
		vad.Level(l)
		m.Step(l)
		m.Each(l)
		m.Each(l, l, nil, l)
		if !untouched(l, was) {
			t.Fatalf("R4: a list of %d numbers is changed", len(was))
		}
	}
}

// So does the list of sounds, and its spare room.
func TestListOfListsStays(t *testing.T) {
	was := given()
	all := make([][]int64, 0, 3*len(was))
	for _, l := range was {
		all = append(all, guarded(l))
	}
	spare := all[len(all):cap(all)]
	for i := range spare {
		spare[i] = []int64{filler, int64(i)}
	}
	first := slices.Clone(all)
	vad.New().Each(all...)
	for i, l := range all {
		// A sound of none has spare room of its own, so that this one has an address too.
		if !untouched(l, was[i]) || len(l) != len(first[i]) || &l[:1][0] != &first[i][:1][0] {
			t.Fatalf("R4: sound %d of several is changed", i)
		}
	}
	for i, l := range spare {
		if !slices.Equal(l, []int64{filler, int64(i)}) {
			t.Fatalf("R4: the spare room of a list of sounds is changed: %d", l)
		}
	}
}

// What was handed in is not kept: writing over it tells a Meter nothing.
func TestListsAreNotKept(t *testing.T) {
	p, other := newPair(), newPair()
	x, several := make([]int64, 0, 2000), make([][]int64, 3)
	for i, sound := range story(400, 150) {
		x = append(x[:0], sound...)
		p.step(t, x)
		other.step(t, sound)
		for k := range x[:cap(x)] {
			x[:cap(x)][k] = 32767
		}
		p.floor(t)
		if i%5 == 0 {
			several[0], several[1], several[2] = slices.Clone(sound), x[:9], sound
			p.each(t, several...)
			several[0], several[1], several[2] = nil, nil, flat(4, 9)
			other.each(t, sound, flat(9, 32767), sound)
		}
		if p.m.Floor() != other.m.Floor() {
			t.Fatalf("R4: floor %d, of lists that stay %d", p.m.Floor(), other.m.Floor())
		}
	}
}

// What Each answered stays as it is behind another, and no two of them share memory, spare room too.
func TestAnswersAreNew(t *testing.T) {
	m := vad.New()
	m.Step(flat(9, 5))
	quiet, loud := flat(9, 5), flat(9, 5000)
	first := m.Each(loud, quiet, quiet)
	second := m.Each(quiet, quiet, quiet)
	mustBe(t, "the first one", first, true, true, true)
	mustBe(t, "the second one", second, true, true, false)
	m.Step(loud)
	m.Each(loud, loud, loud, loud)
	mustBe(t, "the first one, behind others", first, true, true, true)
	mustBe(t, "the second one, behind others", second, true, true, false)

	fillBools(second, true)
	mustBe(t, "the first one, behind one that is written over", first, true, true, true)
	fillBools(first, false)
	mustBe(t, "the second one, behind one that is written over", second, true, true, true)
	third := m.Each(quiet, quiet, quiet, quiet, quiet, quiet)
	mustBe(t, "the third one", third, true, true, true, true, false, false)
	mustBe(t, "the first one, behind the third", first, false, false, false)
	mustBe(t, "the second one, behind the third", second, true, true, true)
	grown := append(first, true, true, true)
	mustBe(t, "the third one, behind the first that has grown", third, true, true, true, true, false, false)
	mustBe(t, "the one that has grown", grown, false, false, false, true, true, true)
}

// Answers of two Meters, and of none.
func TestAnswersOfTwoMeters(t *testing.T) {
	a, b := vad.New(), vad.New()
	quiet, loud := flat(9, 5), flat(9, 5000)
	first, other := a.Each(quiet, loud), b.Each(quiet, loud)
	fillBools(first, false)
	mustBe(t, "the other Meter's", other, false, true)
	fillBools(a.Each(), true)
	fillBools(b.Each(), true)
	mustBe(t, "the first Meter's", first, false, false)
	mustBe(t, "the other Meter's, behind none", other, false, true)
	mustBe(t, "the first Meter's next", a.Each(quiet, quiet, quiet, quiet, quiet), true, true, true, true, false)
}

func mustBe(t *testing.T, what string, l []bool, want ...bool) {
	t.Helper()
	if !slices.Equal(l, want) {
		t.Errorf("R4: %s: %t, want %t", what, l, want)
	}
}

// fillBools writes over a list and all its spare room.
func fillBools(l []bool, v bool) {
	l = l[:cap(l)]
	for i := range l {
		l[i] = v
	}
}
