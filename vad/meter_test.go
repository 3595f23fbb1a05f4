package vad_test

import (
	"testing"

	"madrigal/vad"
)

// row is the level of a sound, and what a Meter tells of it.
type row struct {
	level int64
	said  bool
	floor int64
}

// hear goes through rows by hand.
func hear(t *testing.T, l levels, rows []row) {
	t.Helper()
	m, p := vad.New(), newPair()
	for i, r := range rows {
		x := l.of(t, r.level)
		if said := m.Step(x); said != r.said || m.Floor() != r.floor {
			t.Errorf("P13.1: row %d, level %d: %t, floor %d, want %t, %d", i, r.level, said, m.Floor(), r.said, r.floor)
		}
		p.step(t, x)
	}
}

func TestFloorAheadOfAll(t *testing.T) {
	m := vad.New()
	for range 3 {
		if m.Floor() != -1 {
			t.Errorf("P13.1: Floor ahead of the first Step: %d, want -1", m.Floor())
		}
	}
	m.Step([]int64{1000})
	if m.Floor() != 5102 {
		t.Errorf("P13.1: Floor behind the first Step: %d, want 5102", m.Floor())
	}
}

// The first sound is the floor, however loud: it is never speech.
func TestFirstSound(t *testing.T) {
	for _, x := range [][]int64{nil, {}, {0}, {1}, {1, 0}, {16, 16}, {-1000}, {32767}, {-32768}, flat(960, -32768), flat(5000, 1<<40)} {
		m := vad.New()
		if said, want := m.Step(x), levelApart(x); said || m.Floor() != want {
			t.Errorf("P13.1: the first sound of %d samples: %t, floor %d, want %d", len(x), said, m.Floor(), want)
		}
	}
}

func TestFloorRisesAndFalls(t *testing.T) {
	hear(t, levels{}, []row{
		{4000, false, 4000},
		{4000, false, 4000}, // it stays
		{4001, false, 4001}, // rises by less than 8
		{4008, false, 4008},
		{4016, false, 4016}, // by 8
		{4025, false, 4024}, // by no more than 8
		{4500, false, 4032},
		{4032, false, 4032}, // stays
		{4031, false, 4031}, // falls
		{3000, false, 3000}, // however far, at once
		{2200, false, 2200},
		{2208, false, 2208},
		{0, false, 0}, // also to 0
		{0, false, 0},
		{256, false, 8},
		{0, false, 0},
	})
}

// A floor of 0 is one: only that of -1 is none.
func TestFloorOfNought(t *testing.T) {
	hear(t, levels{}, []row{
		{0, false, 0}, {5000, true, 8}, {5000, true, 16}, {0, true, 0}, {0, true, 0}, {0, true, 0}, {0, true, 0}, {0, false, 0}, {7680, true, 8},
	})
	hear(t, levels{}, []row{{0, false, 0}, {512, false, 8}, {256, false, 16}, {0, false, 0}, {594, true, 8}})
}

// A sound 512 above the floor is none yet; the floor is the one that this sound has made.
func TestJustAndJustNot(t *testing.T) {
	l := levels{}
	for floor := int64(2200); floor+521 <= 7680; floor++ {
		for behind, want := range map[int64]bool{505: false, 511: false, 512: false, 513: false, 519: false, 520: false, 521: true, 522: true, 530: true} {
			if floor+behind > 7680 {
				continue
			}
			m := vad.New()
			m.Step(l.of(t, floor))
			if said := m.Step(l.of(t, floor+behind)); said != want || m.Floor() != floor+8 {
				t.Fatalf("P13.1: a sound %d above the floor %d, which rises to %d: %t, want %t", behind, floor, m.Floor(), said, want)
			}
		}
	}
}

// Likewise where sounds ahead have made the floor rise, stay and fall, by 512 and 513 each.
func TestJustAndJustNotLater(t *testing.T) {
	l := levels{}
	hear(t, l, []row{
		{4000, false, 4000}, {4520, false, 4008}, {4528, false, 4016}, {4016, false, 4016}, {4536, false, 4024}, {4545, true, 4032},
	})
	hear(t, l, []row{
		{4000, false, 4000}, {3900, false, 3900}, {4420, false, 3908}, {4429, true, 3916}, {3916, true, 3916}, {4436, true, 3924}, {4444, true, 3932}, {4452, true, 3940}, {4460, false, 3948}, {4469, true, 3956},
	})
}

// Behind a loud sound four quiet ones are speech; each loud one makes them four anew.
func TestCount(t *testing.T) {
	l := levels{}
	hear(t, l, []row{
		{3000, false, 3000}, {3000, false, 3000},
		{5000, true, 3008},
		{3000, true, 3000}, {3000, true, 3000}, {3000, true, 3000}, {3000, true, 3000},
		{3000, false, 3000}, {3000, false, 3000}, {3000, false, 3000},
		{5000, true, 3008}, {5000, true, 3016}, {5000, true, 3024},
		{3000, true, 3000}, {3000, true, 3000}, {3000, true, 3000},
		{4000, true, 3008},
		{3000, true, 3000}, {3000, true, 3000}, {3000, true, 3000}, {3000, true, 3000},
		{4000, true, 3008},
		{3000, true, 3000}, {3000, true, 3000}, {3000, true, 3000}, {3000, true, 3000}, {3000, false, 3000},
	})
}

// Of each number of loud sounds, and of quiet ones between two of them.
func TestCountIsFourAnew(t *testing.T) {
	l := levels{}
	quiet, loud := l.of(t, 2500), l.of(t, 6000)
	for louds := 1; louds < 12; louds++ {
		for between := range 12 {
			for again := range 3 {
				p := newPair()
				p.step(t, quiet)
				for range louds {
					mustSay(t, p, loud, true)
				}
				for n := range between {
					mustSay(t, p, quiet, n < 4)
				}
				for range again {
					mustSay(t, p, loud, true)
				}
				for n := range 9 {
					mustSay(t, p, quiet, again > 0 && n < 4 || again == 0 && n+between < 4)
				}
			}
		}
	}
}

func mustSay(t *testing.T, p *pair, x []int64, want bool) {
	t.Helper()
	if said := p.step(t, x); said != want {
		t.Fatalf("P13.1: Step behind the levels %d: %t, want %t", p.h, said, want)
	}
}

// The count is one less only where it is above 0: however long it is quiet, a loud sound lasts as long behind it.
func TestLongSilence(t *testing.T) {
	for _, n := range []int{1, 4, 5, 6, 50, 300} {
		m := vad.New()
		for range n {
			if m.Step(flat(20, 3)) {
				t.Fatalf("P13.1: quiet from the beginning on, and speech")
			}
		}
		for round := range 3 {
			for k := range 5 + n {
				x := flat(20, 3)
				if k == 0 {
					x = flat(20, 300)
				}
				if said := m.Step(x); said != (k < 5) {
					t.Fatalf("P13.1: behind %d quiet sounds, round %d, sound %d: %t", n, round, k, said)
				}
			}
		}
	}
}

// A sound that stays loud becomes silence: once the floor has risen as far as 512 below it.
func TestFloorRisesToALoudSound(t *testing.T) {
	l := levels{}
	for _, level := range []int64{4000, 5000, 5003, 6001} {
		m := vad.New()
		m.Step(l.of(t, 3000))
		said, floor, left := true, int64(3000), 5
		for n := range 1000 {
			floor = min(level, floor+8)
			if level <= floor+512 {
				left--
			}
			if said = m.Step(l.of(t, level)); said != (left > 0) || m.Floor() != floor {
				t.Fatalf("P13.1: sound %d of level %d: %t, floor %d, want %t, %d", n, level, said, m.Floor(), left > 0, floor)
			}
		}
		if said || m.Floor() != level {
			t.Errorf("P13.1: at last: %t, floor %d, want %d", said, m.Floor(), level)
		}
	}
}

// Sounds of no samples are silent.
func TestSoundsThatAreNone(t *testing.T) {
	for _, none := range [][]int64{nil, {}, make([]int64, 0, 50)} {
		m := vad.New()
		if m.Step(none) || m.Floor() != 0 {
			t.Errorf("P13.1: Step of none: floor %d, want 0", m.Floor())
		}
		if !m.Step(flat(9, 1000)) || m.Floor() != 8 {
			t.Errorf("P13.1: a loud sound behind none: floor %d, want 8", m.Floor())
		}
		for n := range 6 {
			if said := m.Step(none); said != (n < 4) || m.Floor() != 0 {
				t.Errorf("P13.1: %d of none behind a loud sound: %t, floor %d", n, said, m.Floor())
			}
		}
	}
}
