package vad_test

import (
	"math"
	"math/rand/v2"
	"slices"
	"testing"

	"madrigal/vad"
)

func mustLevel(t *testing.T, what string, x []int64, want int64) {
	t.Helper()
	if l := vad.Level(x); l != want {
		t.Errorf("P13.1: Level of %s (%d samples): %d, want %d", what, len(x), l, want)
	}
}

func TestExamples(t *testing.T) {
	mustLevel(t, "the first example", []int64{0, 0}, 0)
	mustLevel(t, "the second example", []int64{16, 16}, 2049)
}

// Reckoned apart from the program, in another language.
func TestLevelsOfFew(t *testing.T) {
	for _, c := range []struct {
		x    []int64
		want int64
	}{
		{nil, 0}, {[]int64{}, 0}, {[]int64{0}, 0},
		// Numbers by themselves: 1 is added to each square.
		{[]int64{1}, 256}, {[]int64{-1}, 256}, {[]int64{2}, 594}, {[]int64{3}, 850}, {[]int64{10}, 1704}, {[]int64{-10}, 1704},
		{[]int64{15}, 2001}, {[]int64{16}, 2049}, {[]int64{17}, 2094}, {[]int64{100}, 3401}, {[]int64{255}, 4093}, {[]int64{256}, 4096}, {[]int64{1000}, 5102},
		// 1 is added behind the division: ahead of it these would be 0, 2048.
		{[]int64{1, 1}, 256}, {[]int64{-16, 16}, 2049},
		// Sums that do not divide evenly, down.
		{[]int64{1, 0}, 0}, {[]int64{0, 1}, 0}, {[]int64{1, 1, 0}, 0}, {[]int64{2, 1, 0}, 256}, {[]int64{2, 1, 1}, 405}, {[]int64{2, 2, 0}, 405},
		{[]int64{3, 2, 2}, 661}, {[]int64{1, 2, 3}, 594}, {[]int64{100, 200, 300}, 3970}, {[]int64{1000, -1000}, 5102},
	} {
		mustLevel(t, "few", c.x, c.want)
		if l := levelApart(c.x); l != c.want {
			t.Errorf("the reference's level of %d: %d, want %d", c.x, l, c.want)
		}
	}
}

// Each number counts as the nearest of 16 bits.
func TestLevelsOfFarNumbers(t *testing.T) {
	for v, want := range map[int64]int64{
		32766: 7679, 32767: 7679, 32768: 7679, 32769: 7679, 1 << 16: 7679, 1 << 31: 7679, 1 << 32: 7679, 1<<32 + 1: 7679, 1 << 40: 7679, 1 << 62: 7679, math.MaxInt64 - 1: 7679, math.MaxInt64: 7679,
		-32766: 7679, -32767: 7679, -32768: 7680, -32769: 7680, -1 << 16: 7680, -1 << 31: 7680, -1 << 32: 7680, -1<<32 - 1: 7680, -1 << 40: 7680, -1 << 62: 7680, math.MinInt64 + 1: 7680, math.MinInt64: 7680,
	} {
		for _, n := range []int{1, 2, 959, 960, 961, 2000} {
			mustLevel(t, "far numbers", flat(n, v), want)
		}
		// By themselves among silent ones, ahead of them and behind.
		for n := 1; n < 12; n++ {
			mustLevel(t, "a far number ahead", append([]int64{v}, make([]int64, n)...), levelApart(append(make([]int64, n), within16(v))))
			mustLevel(t, "a far number behind", append(make([]int64, n), v), levelApart(append(make([]int64, n), within16(v))))
		}
	}
	mustLevel(t, "both ends", []int64{32767, -32768}, 7679)
	mustLevel(t, "the most and nought", []int64{32767, 0}, 7423)
	mustLevel(t, "the least and nought", []int64{-32768, 0}, 7424)
	mustLevel(t, "959 of the least and nought", append(flat(959, -32768), 0), 7679)
}

// Among so many silent samples, one number about the clamp.
func TestLevelAboutTheClamp(t *testing.T) {
	for _, v := range []int64{32765, 32766, 32767, 32768, 32769, -32766, -32767, -32768, -32769, -32770} {
		far := within16(v)
		for n := 1; n <= 300; n++ {
			x := append(make([]int64, n-1), v)
			mustLevel(t, "about the clamp", x, levelApart(append(make([]int64, n-1), far)))
		}
	}
}

// sizes are about the edges that the chapter names, and beyond.
var sizes = []int{0, 1, 2, 3, 10, 80, 160, 320, 479, 480, 481, 957, 958, 959, 960, 961, 962, 963, 1000, 1023, 1024, 1919, 1920, 1921, 4000, 100000}

func TestLevelOfAnySize(t *testing.T) {
	for i, n := range sizes {
		for _, most := range []int64{0, 1, 2, 9, 300, 32767, 40000, 1 << 40} {
			x := noise(uint32(i), n, most)
			mustLevel(t, "noise", x, levelApart(x))
		}
	}
	for n := range 1500 {
		x := noise(uint32(n), n, int64(n)*22)
		mustLevel(t, "noise", x, levelApart(x))
	}
}

// Reckoned apart from the program, in another language.
func TestLevelsOfNoise(t *testing.T) {
	for _, c := range []struct {
		seed uint32
		n    int
		most int64
		want int64
	}{
		{1, 1, 5, 594}, {2, 2, 9, 1256}, {3, 80, 1, 0}, {4, 80, 100, 2924}, {5, 160, 1000, 4689}, {6, 320, 32767, 7250},
		{7, 959, 20000, 6897}, {8, 960, 20000, 6911}, {9, 961, 20000, 6913}, {10, 1500, 20000, 6909}, {11, 960, 40000, 7380}, {12, 480, 7, 1067}, {13, 5000, 3000, 5504},
	} {
		mustLevel(t, "noise", noise(c.seed, c.n, c.most), c.want)
	}
}

// The samples behind the 960th have no part in it: nor does how many they are.
func TestLevelLeavesTheRestOut(t *testing.T) {
	for _, head := range [][]int64{flat(960, 0), flat(960, 16), flat(960, 1000), flat(960, -32768), noise(1, 960, 500), noise(2, 960, 1<<40)} {
		want := levelApart(head)
		mustLevel(t, "960", head, want)
		for _, more := range []int{1, 2, 3, 100, 960, 961, 20000} {
			for _, v := range []int64{0, 1, -1, 30000, math.MaxInt64, math.MinInt64} {
				mustLevel(t, "more than 960", append(slices.Clone(head), flat(more, v)...), want)
			}
		}
	}
}

// One loud sample has as much part in it wherever it is, up to the 960th.
func TestLevelOfOneLoudSample(t *testing.T) {
	for _, n := range sizes {
		counted := min(n, 960)
		for k := 0; k < min(n, 1100); k++ {
			x := make([]int64, n)
			x[k] = -32768
			want := int64(0)
			if k < 960 {
				// The greatest square is 2^30 by itself.
				want = levelApart(append(make([]int64, counted-1), -32768))
			}
			if k > 3 && k < 950 && k%50 != 0 {
				continue
			}
			mustLevel(t, "one loud sample", x, want)
		}
	}
	mustLevel(t, "the 960th alone", append(make([]int64, 959), 31), 256)
	mustLevel(t, "the 960th alone, just too quiet", append(make([]int64, 959), 30), 0)
	mustLevel(t, "the 961st alone", append(make([]int64, 960), 31), 0)
}

// A level is the next one just where the sum divides evenly.
func TestLevelWhereASumDivides(t *testing.T) {
	for _, n := range []int{1, 2, 3, 5, 7, 16, 100, 479, 959, 960} {
		for ones := 0; ones <= n; ones++ {
			x := append(flat(ones, 1), make([]int64, n-ones)...)
			want := int64(0)
			if ones == n {
				want = 256
			}
			mustLevel(t, "ones", x, want)
			// The squares of twos are four each.
			for i := range ones {
				x[i] = -2
			}
			mustLevel(t, "twos", x, []int64{0, 256, 405, 512, 594}[4*ones/n])
		}
	}
}

// The order of samples does not matter.
func TestLevelInAnyOrder(t *testing.T) {
	r := rand.New(rand.NewPCG(13, 2))
	for n := range 200 {
		x := noise(uint32(n), 1+n*4, 900)
		want := vad.Level(x)
		r.Shuffle(len(x), func(i, k int) { x[i], x[k] = x[k], x[i] })
		mustLevel(t, "a shuffled sound", x, want)
	}
}

func TestLevelsOfOneAndTwo(t *testing.T) {
	for v := int64(-32770); v <= 32770; v++ {
		if v > -300 && v < 300 || v%13 == 0 || v > 32700 || v < -32700 {
			mustLevel(t, "one number", []int64{v}, levelApart([]int64{v}))
		}
	}
	for a := int64(0); a < 60; a++ {
		for b := int64(0); b < 60; b++ {
			mustLevel(t, "two numbers", []int64{a, -b}, levelApart([]int64{a, -b}))
		}
	}
}
