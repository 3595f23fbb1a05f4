package gain_test

import (
	"math"
	"slices"
	"testing"

	"madrigal/api"
	"madrigal/gain"
	"madrigal/rc"
	"madrigal/renc"
	"madrigal/tabs"
)

// far are numbers far past all bounds, on both sides, up to the least and greatest that there are.
var far = []int{
	math.MinInt, math.MinInt + 1, math.MinInt + 63, -1 << 62, -1 << 57, -1 << 56, -1 << 33, -1 << 32, -1<<31 - 1, -1 << 31, -1 << 16, -257, -256, -129, -128, -100, -65, -64, -63,
	128, 129, 255, 256, 257, 1 << 16, 1<<31 - 1, 1 << 31, 1 << 32, 1<<32 + 5, 1 << 33, 1 << 56, 1 << 57, 1 << 62, math.MaxInt - 63, math.MaxInt - 1, math.MaxInt,
}

// rates that have no lags.
var noRates = []int{
	math.MinInt, -1 << 32, -16000, -8000, -1, 0, 1, 10, 20, 499, 500, 4000, 7999, 8001, 8500, 12000, 15999, 16001, 24000, 32000, 48000,
	1<<32 + 8000, 1<<32 + 16000, math.MaxInt,
}

func mustLoud(t *testing.T, g int, want int64) {
	t.Helper()
	if l := gain.Loud(g); l != want {
		t.Errorf("P8.1: Loud(%d): %d, want %d", g, l, want)
	}
}

func mustBeNearest(t *testing.T, v int64, want int) {
	t.Helper()
	if g := gain.Nearest(v); g != want {
		t.Errorf("P8.1: Nearest(%d): %d, want %d", v, g, want)
	}
}

func TestExamples(t *testing.T) {
	mustLoud(t, 0, 1)
	mustLoud(t, 63, 153360)
	if least, most := gain.Lags(8000); least != 16 || most != 144 {
		t.Errorf("Lags(8000): %d, %d", least, most)
	}
}

// The reference's tables are those of package tabs.
func TestTables(t *testing.T) {
	for k, want := range map[int][]int{1: upperParts, 2: changes, 6: taps} {
		if l := tabs.Icdf(k); !slices.Equal(l, want) {
			t.Errorf("Icdf(%d): %d, want %d", k, l, want)
		}
	}
}

func TestLoud(t *testing.T) {
	for g := -200; g < 300; g++ {
		mustLoud(t, g, loud(g))
	}
	for _, g := range far {
		mustLoud(t, g, loud(g))
	}
}

func TestNearestOfEachLoud(t *testing.T) {
	for g, v := range louds {
		// Of several that are as loud the least.
		want := slices.Index(louds[:], v)
		mustBeNearest(t, v, want)
		if n := gain.Nearest(gain.Loud(g)); n != want || gain.Loud(n) != v {
			t.Errorf("P8.1: Nearest of Loud(%d): %d, want %d", g, n, want)
		}
	}
}

func TestNearestAboutTheMiddle(t *testing.T) {
	ties := 0
	for g := range 63 {
		a, b := louds[g], louds[g+1]
		if a == b {
			continue
		}
		lower, upper := slices.Index(louds[:], a), g+1
		middle := (a + b) / 2
		// At the middle itself the lower one, be it as near as the other one or nearer.
		mustBeNearest(t, middle, lower)
		mustBeNearest(t, middle+1, upper)
		if middle-1 >= a {
			mustBeNearest(t, middle-1, lower)
		}
		if 2*middle == a+b {
			ties++
		}
	}
	if ties < 20 {
		t.Errorf("only %d middles are as near both", ties)
	}
}

func TestNearestOfAll(t *testing.T) {
	for v := int64(-300); v < 3000; v++ {
		mustBeNearest(t, v, nearest(v))
	}
	for v := int64(3000); v < 160000; v += 17 {
		mustBeNearest(t, v, nearest(v))
	}
}

func TestNearestPastTheEnds(t *testing.T) {
	for _, v := range []int64{math.MinInt64, math.MinInt64 + 1, math.MinInt64 + 153360, -1 << 62, -1 << 32, -153361, -153360, -2, -1, 0, 1} {
		mustBeNearest(t, v, 0)
		mustBeNearest(t, v, nearest(v))
	}
	for _, v := range []int64{140122, 153359, 153360, 153361, 306720, 1 << 31, 1 << 32, 1 << 40, 1 << 62, math.MaxInt64 - 153360, math.MaxInt64 - 1, math.MaxInt64} {
		mustBeNearest(t, v, 63)
		mustBeNearest(t, v, nearest(v))
	}
	mustBeNearest(t, 140121, 62)
	for s := range 63 {
		for _, v := range []int64{1 << s, -1 << s, 1<<s - 1, 1 - 1<<s, 1<<s + 1} {
			mustBeNearest(t, v, nearest(v))
		}
	}
}

func TestLags(t *testing.T) {
	for _, rate := range append([]int{8000, 16000}, noRates...) {
		a, b, _ := lagsOf(rate)
		if least, most := gain.Lags(rate); least != a || most != b {
			t.Errorf("P8.2: Lags(%d): %d, %d, want %d, %d", rate, least, most, a, b)
		}
	}
	for rate := -70000; rate < 70000; rate++ {
		a, b, _ := lagsOf(rate)
		if least, most := gain.Lags(rate); least != a || most != b {
			t.Fatalf("P8.2: Lags(%d): %d, %d, want %d, %d", rate, least, most, a, b)
		}
	}
}

// alone writes nothing ahead, so that what is written can be told by itself.
func alone(t *testing.T, w told) {
	t.Helper()
	r := run{e: renc.New(), apart: renc.New()}
	r.put(t, w)
	r.back(t, r.least())
	r.back(t, r.least()+3)
}

func TestEachFirst(t *testing.T) {
	for g := range 64 {
		alone(t, told{what: "first", g: g})
	}
}

func TestEachNext(t *testing.T) {
	for was := -70; was < 140; was++ {
		for g := -70; g < 140; g++ {
			w := told{what: "next", g: g, was: was}
			n, x := gain.WriteNext(renc.New(), g, was)
			if want := within(within(g, 0, 63), within(was, 0, 63)-8, within(was, 0, 63)+8); n != want || x != api.OK {
				t.Fatalf("P8.1: WriteNext(%d, %d): %d, %d, want %d", g, was, n, x, want)
			}
			if g%7 == 0 || was%7 == 0 || g < 70 && was < 70 {
				alone(t, w)
			}
		}
	}
}

func TestNextOfFarNumbers(t *testing.T) {
	about := append([]int{-9, -8, -1, 0, 1, 7, 8, 9, 31, 54, 55, 56, 62, 63, 64, 71, 72}, far...)
	for _, was := range about {
		for _, g := range about {
			alone(t, told{what: "next", g: g, was: was})
		}
	}
}

// What is asked for lies so far from the one ahead: up to 8 it is what is read, past that the end of what can be told.
func TestNextByItsDistance(t *testing.T) {
	for _, was := range []int{0, 1, 8, 9, 20, 31, 54, 55, 62, 63} {
		for asked, reached := range map[int]int{-63: -8, -10: -8, -9: -8, -8: -8, -7: -7, -1: -1, 0: 0, 1: 1, 7: 7, 8: 8, 9: 8, 10: 8, 63: 8} {
			e := renc.New()
			n, x := gain.WriteNext(e, was+asked, was)
			want := within(was+reached, 0, 63)
			b, _ := e.Done(4)
			if v := gain.ReadNext(rc.New(b), was); n != want || v != want || x != api.OK {
				t.Errorf("P8.1: WriteNext(%d, %d): %d, %d; %d is read, want %d", was+asked, was, n, x, v, want)
			}
		}
	}
}

func TestReadNextClampsWas(t *testing.T) {
	for symbol := range 17 {
		e := renc.New()
		e.Symbol(symbol, changes)
		b, _ := e.Done(4)
		for _, was := range append([]int{-9, -8, -1, 0, 1, 8, 30, 55, 56, 62, 63, 64, 70, 71, 72}, far...) {
			if v, want := gain.ReadNext(rc.New(b), was), toldNext(was, symbol); v != want {
				t.Errorf("P8.1: ReadNext of symbol %d behind %d: %d, want %d", symbol, was, v, want)
			}
		}
	}
}

func TestEachLtp(t *testing.T) {
	for _, rate := range []int{8000, 16000} {
		least, most, _ := lagsOf(rate)
		for lag := least; lag <= most; lag++ {
			for taps := range 8 {
				alone(t, told{what: "ltp", rate: rate, ltp: gain.Ltp{Lag: lag, Taps: taps}})
			}
		}
	}
}

// 257 numbers take 129 upper parts of two: of the one that is too many the greatest lag is told, and the bytes are Bad.
func TestLtpThatIsBad(t *testing.T) {
	e := renc.New()
	e.Uint(128, 129)
	e.Bits(1, 1)
	e.Symbol(5, taps)
	b, _ := e.Done(6)
	d := rc.New(b)
	if l := gain.ReadLtp(d, 16000); l != (gain.Ltp{Lag: 288, Taps: 5}) || !d.Bad() {
		t.Errorf("P8.2: ReadLtp of 257 of 257: %d, Bad() %t", l, d.Bad())
	}
}
