package speech_test

import (
	"math/rand/v2"
	"slices"
	"testing"

	"madrigal/api"
	"madrigal/rc"
	"madrigal/renc"
	"madrigal/speech"
)

// Some Players, each with its history: frames that are good and wrong, of both lengths, copies, Reset, and who is the same as whom.
func TestRunsOfPlayers(t *testing.T) {
	r := rand.New(rand.NewPCG(14, 6))
	met := map[string]int{}
	for n := range 120 {
		rate := 8000 + 8000*(n%2)
		p, h := []*speech.Player{newPlayer(t, rate)}, []*history{newHistory(rate)}
		for range 30 {
			k, w := r.IntN(len(p)), form{rate, 10 + 10*r.IntN(2)}
			switch r.IntN(9) {
			case 0:
				p, h = append(p, p[k].Copy()), append(h, h[k].copied())
			case 1:
				if r.IntN(3) == 0 {
					p[k].Reset()
					h[k].reset()
				}
			case 2:
				mustNotPlay(t, "a drawn frame", p[k], w.ms, w.drawnWrong(r))
			case 3:
				f := w.drawnGood(r)
				f.Fresh = true
				for i := range p {
					mustPlay(t, p[i], h[i], w.ms, f)
					mustSame(t, "two behind a Fresh frame", p[i], p[0], true)
				}
			default:
				mustPlay(t, p[k], h[k], w.ms, w.drawnGood(r))
			}
			other := r.IntN(len(p))
			mustSame(t, "two that were drawn", p[k], p[other], h[k].same(h[other]))
			if k != other {
				met[map[bool]string{true: "the same", false: "not the same"}[h[k].same(h[other])]]++
			}
		}
	}
	if met["the same"] < 100 || met["not the same"] < 100 {
		t.Errorf("of both %v", met)
	}
}

// One Player through many frames of one length.
func TestLongRuns(t *testing.T) {
	r := rand.New(rand.NewPCG(14, 7))
	for _, w := range forms {
		p, h := newPlayer(t, w.rate), newHistory(w.rate)
		for range 150 {
			f := w.drawnGood(r)
			f.Fresh = r.IntN(40) == 0
			mustPlay(t, p, h, w.ms, f)
		}
	}
}

// What is written is read and played: a Player of what was told, and one of what is read, whose Gain is what the next frame goes by.
func TestWrittenReadAndPlayed(t *testing.T) {
	r := rand.New(rand.NewPCG(14, 8))
	for n := range 60 {
		w := forms[n%4]
		p, q, h := newPlayer(t, w.rate), newPlayer(t, w.rate), newHistory(w.rate)
		for range 12 {
			e := renc.New()
			told, x := speech.Write(e, w.rate, w.ms, p.Gain(), w.drawnGood(r))
			b, y := e.Done((e.Tell() + 7) / 8)
			f, z := speech.Read(rc.New(b), w.rate, w.ms, q.Gain())
			if x != api.OK || y != api.OK || z != api.OK || !equal(f, told) {
				t.Fatalf("P14.2: %v: %+v is told, %d, %d, %d, and %+v read", w, told, x, y, z, f)
			}
			l, _ := q.Play(w.ms, f)
			if !slices.Equal(l, mustPlay(t, p, h, w.ms, told)) {
				t.Fatalf("P14: %v: what was told and what is read sound unlike", w)
			}
			mustSame(t, "of what was told and of what is read", p, q, true)
		}
	}
}

// Noise that is read is played.
func TestNoiseIsPlayed(t *testing.T) {
	r := rand.New(rand.NewPCG(14, 9))
	for n := range 40 {
		w := forms[n%4]
		p, h := newPlayer(t, w.rate), newHistory(w.rate)
		for range 10 {
			f, _ := speech.Read(rc.New(noise(r, r.IntN(160))), w.rate, w.ms, p.Gain())
			mustPlay(t, p, h, w.ms, f)
		}
	}
}
