package vad_test

import (
	"math/rand/v2"
	"slices"
	"testing"

	"madrigal/vad"
)

func mustSayEach(t *testing.T, m *vad.Meter, want []bool, l ...[]int64) {
	t.Helper()
	if said := m.Each(l...); !slices.Equal(said, want) {
		t.Errorf("P13.1: Each of %d: %t, want %t", len(l), said, want)
	}
}

func TestEachByHand(t *testing.T) {
	quiet, loud := flat(80, 16), flat(80, 1000)
	m := vad.New()
	mustSayEach(t, m, []bool{false}, quiet)
	mustSayEach(t, m, []bool{false, true, true, true, true, true, false, true}, quiet, loud, quiet, quiet, quiet, quiet, quiet, loud)
	mustSayEach(t, m, []bool{true, true}, quiet, quiet)
	mustSayEach(t, m, []bool{true, true, false, false}, quiet, quiet, quiet, quiet)
	if m.Floor() != 2049 {
		t.Errorf("P13.1: Floor behind Each: %d, want 2049", m.Floor())
	}
}

// Each of none tells the Meter nothing: neither is there a floor then, nor is one of the four gone.
func TestEachOfNone(t *testing.T) {
	m := vad.New()
	for range 3 {
		mustSayEach(t, m, nil)
		mustSayEach(t, m, nil, [][]int64{}...)
		if m.Floor() != -1 {
			t.Errorf("P13.1: Floor behind Each of none: %d, want -1", m.Floor())
		}
	}
	m.Step(flat(9, 5))
	m.Step(flat(9, 500))
	for n := range 6 {
		floor := m.Floor()
		for range 10 {
			mustSayEach(t, m, nil)
		}
		if m.Floor() != floor {
			t.Errorf("P13.1: Floor behind Each of none: %d, want %d", m.Floor(), floor)
		}
		if said := m.Step(flat(9, 5)); said != (n < 4) {
			t.Errorf("P13.1: quiet sound %d with Each of none ahead: %t", n, said)
		}
	}
}

func TestEachOfSoundsThatAreNone(t *testing.T) {
	m := vad.New()
	mustSayEach(t, m, []bool{false}, nil)
	if m.Floor() != 0 {
		t.Errorf("P13.1: Floor behind Each of a sound that is none: %d, want 0", m.Floor())
	}
	mustSayEach(t, m, []bool{false, false, true, true, true, true, true, false}, nil, []int64{}, flat(3, 500), nil, []int64{}, nil, []int64{}, nil)
	mustSayEach(t, vad.New(), make([]bool, 300), make([][]int64, 300)...)
}

// story is sounds of all kinds, one behind the other.
func story(seed uint64, n int) [][]int64 {
	r := rand.New(rand.NewPCG(13, seed))
	var l [][]int64
	most := int64(20)
	for range n {
		if r.IntN(4) == 0 {
			most = []int64{0, 1, 5, 20, 60, 200, 1000, 5000, 32767, 1 << 40}[r.IntN(10)]
		}
		l = append(l, drawn(r, most))
	}
	return l
}

// However a story is cut, by Each and by Step in turn, the same Meter goes on.
func TestEachAndStep(t *testing.T) {
	r := rand.New(rand.NewPCG(13, 3))
	for seed := range uint64(60) {
		l := story(seed, 120)
		p := newPair()
		for len(l) > 0 {
			p.floor(t)
			n := min(r.IntN(9), len(l))
			if r.IntN(2) == 0 {
				p.each(t, l[:n]...)
			} else {
				for _, x := range l[:n] {
					p.step(t, x)
				}
			}
			l = l[n:]
		}
	}
}

// Whole, one by one, and cut once at each place.
func TestEachCutAnywhere(t *testing.T) {
	for seed := range uint64(12) {
		l := story(100+seed, 60)
		whole := vad.New()
		want := whole.Each(l...)
		if len(want) != len(l) {
			t.Fatalf("P13.1: Each of %d: %d answers", len(l), len(want))
		}
		one := vad.New()
		for i, x := range l {
			if said := one.Step(x); said != want[i] {
				t.Fatalf("P13.1: Each, sound %d: %t, Step %t", i, want[i], said)
			}
		}
		for cut := range len(l) + 1 {
			m := vad.New()
			said := append(m.Each(l[:cut]...), m.Each(l[cut:]...)...)
			if !slices.Equal(said, want) || m.Floor() != whole.Floor() || one.Floor() != whole.Floor() {
				t.Fatalf("P13.1: Each, cut behind %d sounds: %t, floor %d, want %t, %d", cut, said, m.Floor(), want, whole.Floor())
			}
		}
	}
}

// One list may be handed in as several sounds.
func TestEachOfOneListOften(t *testing.T) {
	p := newPair()
	quiet, loud := flat(40, 7), flat(40, 700)
	p.each(t, quiet, quiet, quiet)
	p.each(t, loud, loud, quiet, loud, quiet, quiet, quiet, quiet, quiet, quiet)
	p.each(t, slices.Repeat([][]int64{loud}, 200)...)
	p.each(t, slices.Repeat([][]int64{quiet, loud, quiet}, 50)...)
}

func TestEachOfVeryMany(t *testing.T) {
	m := vad.New()
	l := slices.Repeat([][]int64{flat(2, 4)}, 100000)
	l[99990] = flat(2, 4000)
	said := m.Each(l...)
	for i, v := range said {
		if v != (i >= 99990 && i <= 99994) {
			t.Fatalf("P13.1: Each of very many: %t at %d", v, i)
		}
	}
	if len(said) != 100000 {
		t.Errorf("P13.1: Each of very many: %d answers", len(said))
	}
}
