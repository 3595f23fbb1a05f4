package gain_test

import (
	"math/big"

	"madrigal/gain"
	"madrigal/rc"
	"madrigal/renc"
)

// Chapter 8 read a second time: loudnesses reckoned apart from the program, in another language; the tables of chapter 2 written out once more; each call of rc and renc by itself.

// louds are Loud(0), Loud(1), .. Loud(63).
var louds = [64]int64{
	1, 1, 1, 2, 2, 3, 3, 4, 5, 6, 7, 8, 10, 12, 14, 17,
	21, 25, 30, 37, 44, 54, 65, 78, 95, 114, 138, 167, 202, 244, 295, 356,
	431, 520, 629, 760, 919, 1111, 1342, 1623, 1961, 2370, 2865, 3463, 4186, 5059, 6115, 7391,
	8933, 10798, 13051, 15775, 19066, 23045, 27855, 33667, 40693, 49185, 59449, 71856, 86851, 104975, 126882, 153360,
}

var (
	upperParts = []int{224, 192, 160, 128, 96, 64, 32, 0}
	changes    = []int{252, 247, 240, 230, 214, 190, 150, 106, 66, 42, 26, 16, 10, 6, 4, 2, 0}
	taps       = []int{205, 163, 128, 97, 70, 44, 20, 0}
)

func within(v, lo, hi int) int {
	if v < lo {
		return lo
	}
	if v > hi {
		return hi
	}
	return v
}

func loud(g int) int64 { return louds[within(g, 0, 63)] }

// nearest needs no clamp: its differences have any length.
func nearest(v int64) int {
	best, least := -1, new(big.Int)
	for g, l := range louds {
		d := new(big.Int).Sub(big.NewInt(v), big.NewInt(l))
		if d.Abs(d); best < 0 || d.Cmp(least) < 0 {
			best, least = g, d
		}
	}
	return best
}

// toldNext is what ReadNext makes of a symbol.
func toldNext(was, symbol int) int { return within(within(was, 0, 63)+symbol-8, 0, 63) }

// symbolOf is what WriteNext writes.
func symbolOf(g, was int) int { return within(within(g, 0, 63)-within(was, 0, 63)+8, 0, 16) }

// lagsOf are the least lag and the most, and how many there are: noughts of a rate that has none.
func lagsOf(rate int) (least, most, many int) {
	switch rate {
	case 8000:
		return 16, 144, 129
	case 16000:
		return 32, 288, 257
	}
	return 0, 0, 0
}

// told is one thing that is told: "first" (g), "next" (g behind was), or "ltp" (of a rate).
type told struct {
	what         string
	g, was, rate int
	ltp          gain.Ltp
}

// read is what gain reads there; of the answer just what is told is set.
func (w told) read(d *rc.Dec) told {
	switch w.what {
	case "first":
		w.g = gain.ReadFirst(d)
	case "next":
		w.g = gain.ReadNext(d, w.was)
	case "ltp":
		w.ltp = gain.ReadLtp(d, w.rate)
	}
	return w
}

// readApart reads it by rc's calls alone.
func (w told) readApart(d *rc.Dec) told {
	switch w.what {
	case "first":
		w.g = 8 * d.Symbol(upperParts)
		w.g += d.Uint(8)
	case "next":
		w.g = toldNext(w.was, d.Symbol(changes))
	case "ltp":
		w.ltp = gain.Ltp{}
		if least, _, many := lagsOf(w.rate); many > 0 {
			w.ltp.Lag = least + d.Uint(many)
			w.ltp.Taps = d.Symbol(taps)
		}
	}
	return w
}

// writeApart writes it by renc's calls alone, and tells what is read then.
func (w told) writeApart(e *renc.Enc) told {
	switch w.what {
	case "first":
		e.Symbol(w.g/8, upperParts)
		e.Uint(w.g%8, 8)
	case "next":
		s := symbolOf(w.g, w.was)
		e.Symbol(s, changes)
		w.g = toldNext(w.was, s)
	case "ltp":
		least, _, many := lagsOf(w.rate)
		e.Uint(w.ltp.Lag-least, many)
		e.Symbol(w.ltp.Taps, taps)
	}
	return w
}
