package lpc_test

import (
	"math"
	"slices"
	"testing"

	"madrigal/lpc"
)

func TestTooManyNumbers(t *testing.T) {
	for _, n := range []int{33, 34, 64, 65, 1000, 1<<16 + 5} {
		for _, v := range []int64{0, 5, 4096, math.MinInt64, math.MaxInt64} {
			a := repeat(v, n)
			mustStable(t, a, false)
			mustGain(t, a, 0)
			for _, c := range []int64{-1, 0, 1, 65536} {
				mustChirp(t, a, c, nil)
			}
			if f := lpc.Fit(a); len(f) != 0 {
				t.Errorf("P7.3: Fit of %d numbers: %d", n, f)
			}
		}
	}
}

func TestNoNumbers(t *testing.T) {
	for _, a := range [][]int64{nil, {}} {
		mustStable(t, a, true)
		mustFit(t, a, nil)
		mustGain(t, a, 4096)
		for _, c := range far {
			mustChirp(t, a, c, nil)
		}
	}
}

func TestChirp(t *testing.T) {
	for _, c := range []struct {
		a    []int64
		c    int64
		want []int64
	}{
		{[]int64{1000, 1000, -1000}, 32768, []int64{500, 250, -125}},
		{[]int64{7, 8, -9}, 65536, []int64{7, 8, -9}},
		{[]int64{7, 8, -9}, 65537, []int64{7, 8, -9}},
		{[]int64{7, 8, -9}, math.MaxInt64, []int64{7, 8, -9}},
		{[]int64{7, 8, -9}, 0, []int64{0, 0, 0}},
		{[]int64{7, 8, -9}, -1, []int64{0, 0, 0}},
		{[]int64{7, 8, -9}, math.MinInt64, []int64{0, 0, 0}},
		{[]int64{32767, -32768, 32768, -32769, 98304}, 1, []int64{0, 0, 0, 0, 0}},
		{[]int64{32768}, 1, []int64{1}},
		{[]int64{-32769}, 1, []int64{-1}},
		{[]int64{1 << 31, 1 << 31, 1 << 31}, 1, []int64{32768, 1, 0}},
		{[]int64{-1 << 31, -1 << 31}, 1, []int64{-32768, 0}},
		// each time to the nearest, halves up: not once in the end
		{[]int64{1, 1, 1, 1}, 32768, []int64{1, 1, 1, 1}},
		{[]int64{-1, -1, -1}, 32768, []int64{0, 0, 0}},
		{[]int64{5, 5, 5, 5}, 32768, []int64{3, 2, 1, 1}},
		{[]int64{-5, -5, -5, -5}, 32768, []int64{-2, -1, 0, 0}},
		{[]int64{3, -3}, 32768, []int64{2, 0}},
		{[]int64{40000, 40000, -40000, -40000}, 65535, []int64{39999, 39998, -39997, -39996}},
		{[]int64{131072, -131072, 32768, -32768}, 65535, []int64{131070, -131068, 32768, -32767}},
		// a product takes nothing past 2^31
		{[]int64{1<<31 - 1, 1 << 31, 1<<31 + 1}, 65536, []int64{1<<31 - 1, 1 << 31, 1 << 31}},
		{[]int64{-1<<31 + 1, -1 << 31, -1<<31 - 1}, 65536, []int64{-1<<31 + 1, -1 << 31, -1 << 31}},
		{[]int64{math.MaxInt64, math.MinInt64}, 65536, []int64{1 << 31, -1 << 31}},
		{[]int64{math.MaxInt64, math.MinInt64, 1 << 62}, 32768, []int64{1 << 30, -1 << 29, 1 << 28}},
		{repeat(1<<31, 2), 65535, []int64{2147450880, 2147418113}},
	} {
		mustChirp(t, c.a, c.c, c.want)
	}
	most := make([]int64, 32)
	for k := range 31 {
		most[k] = 1 << (30 - k)
	}
	most[31] = 1 // a half of 1 is rounded up
	mustChirp(t, repeat(math.MaxInt64, 32), 32768, most)
}

func TestChirpOfEveryLength(t *testing.T) {
	for n := range 34 {
		for _, v := range far {
			for _, c := range []int64{math.MinInt64, -1, 0, 1, 2, 32767, 32768, 32769, 63488, 65534, 65535, 65536, 65537, 1 << 31, math.MaxInt64} {
				mustChirp(t, repeat(v, n), c, chirped(repeat(v, n), c))
			}
		}
	}
}

// What is Stable already stays, to the last number.
func TestFitLeavesWhatIsStable(t *testing.T) {
	for _, a := range [][]int64{
		{0}, {4091}, {-4091}, {0, 4091}, {2045, 2048}, {-6137, -2048}, {100, -200, 300}, {8178, -4091}, make([]int64, 32), repeat(-100, 32), repeat(100, 32),
		{16327, -31625, 46210, -57125, 54664, -40814, 25774, -11578, 1920, 339},
	} {
		mustStable(t, a, true)
		mustFit(t, a, a)
	}
}

// Each row was reckoned apart from the program. A filter is Stable for the first time behind that many rounds.
func TestFitByRounds(t *testing.T) {
	for _, c := range []struct {
		a      []int64
		rounds int
		want   []int64
	}{
		{[]int64{4092}, 1, []int64{3964}}, {[]int64{-4092}, 1, []int64{-3964}},
		{[]int64{4200}, 1, []int64{4069}}, {[]int64{4223}, 1, []int64{4091}}, {[]int64{-4223}, 1, []int64{-4091}},
		{[]int64{4224}, 2, []int64{3836}}, {[]int64{4501}, 2, []int64{4088}}, {[]int64{-4501}, 2, []int64{-4087}}, {[]int64{4505}, 2, []int64{4091}},
		{[]int64{4506}, 3, []int64{3708}}, {[]int64{5000}, 4, []int64{3601}}, {[]int64{6000}, 5, []int64{3647}}, {[]int64{-6000}, 5, []int64{-3646}},
		{[]int64{8000}, 6, []int64{3950}}, {[]int64{11000}, 8, []int64{3182}}, {[]int64{15000}, 9, []int64{3119}}, {[]int64{20000}, 10, []int64{2859}},
		{[]int64{-30000}, 11, []int64{-2814}}, {[]int64{45000}, 12, []int64{2639}}, {[]int64{80000}, 13, []int64{2785}},
		{[]int64{1 << 17}, 14, []int64{2567}}, {[]int64{-1 << 17}, 14, []int64{-2566}},
		{[]int64{1<<17 + 1}, 14, []int64{2567}}, {[]int64{math.MaxInt64}, 14, []int64{2567}}, {[]int64{math.MinInt64}, 14, []int64{-2566}},
		{[]int64{8192, -4096}, 2, []int64{7440, -3379}}, {[]int64{8192, -4000}, 3, []int64{6743, -2710}},
		{[]int64{4096, 4096, 4096}, 6, []int64{2022, 999, 493}}, {[]int64{100000, -100000}, 13, []int64{3481, -121}},
		{[]int64{16000, -24000, 16000, -4000}, 4, []int64{11523, -12447, 5977, -1075}},
		{only(4096, 31, 32), 1, only(1483, 31, 32)}, {only(-1<<17, 31, 32), 3, only(-257, 31, 32)},
		{repeat(5000, 32), 7, append([]int64{1928, 745, 287, 110, 43, 16, 6}, repeat(2, 25)...)},
		{repeat(math.MaxInt64, 32), 14, append([]int64{2567, 50}, repeat(1, 30)...)},
		{repeat(math.MinInt64, 32), 14, append([]int64{-2566, -50}, repeat(-1, 30)...)},
	} {
		mustFit(t, c.a, c.want)
		f := all(c.a, within17)
		for r := range c.rounds {
			mustStable(t, f, false)
			f = lpc.Chirp(f, 63488-2048*int64(r))
		}
		if !slices.Equal(f, c.want) {
			t.Errorf("P7.3: behind %d rounds %d is %d, want %d", c.rounds, c.a, f, c.want)
		}
	}
}

func TestFitClampsEach(t *testing.T) {
	for n := 1; n <= 32; n++ {
		for _, v := range far {
			mustFit(t, repeat(v, n), fitOf(repeat(within17(v), n)))
			for _, k := range []int{0, n / 2, n - 1} {
				mustFit(t, only(v, k, n), fitOf(only(within17(v), k, n)))
			}
		}
	}
}

// A greater number is never less than a lesser one behind a round, so those at the bounds tell what can be left of any. Behind 14 rounds that is so little that every filter is Stable: the last two rounds, and noughts, are never needed.
func TestFitEndsWithinFourteenRounds(t *testing.T) {
	sum := int64(0)
	for k := range 32 {
		left := int64(0)
		for _, bound := range []int64{-1 << 17, 1 << 17} {
			v := only(bound, k, 32)
			for r := range 14 {
				v = lpc.Chirp(v, 63488-2048*int64(r))
			}
			left = max(left, v[k], -v[k])
		}
		sum += left
	}
	if sum != 2647 {
		t.Errorf("P7.3: behind 14 rounds of weakening %d are left, want 2647", sum)
	}
	for signs := range 1 << 12 {
		a := make([]int64, 12)
		for k := range a {
			a[k] = 1<<17 - int64(signs>>k&1)<<18
		}
		f, rounds := fitted(a)
		if rounds != 14 || slices.Max(f) == 0 {
			t.Errorf("P7.3: %d takes %d rounds", a, rounds)
		}
		mustFit(t, a, f)
	}
}

func TestGain(t *testing.T) {
	for _, c := range []struct {
		a    []int64
		want int64
	}{
		{[]int64{0}, 4096}, {make([]int64, 32), 4096}, {[]int64{1}, 4096}, {[]int64{4096}, 5792}, {[]int64{-4096}, 5792},
		{[]int64{3072}, 5120}, {[]int64{-3072}, 5120}, {[]int64{3072, 1}, 5120}, {[]int64{3071}, 5119}, {[]int64{3073}, 5120},
		// just below, at and above a whole number's square
		{[]int64{64, 64}, 4096}, {[]int64{64, -64, 1}, 4097}, {[]int64{64, 64, 1, 1}, 4097}, {[]int64{63, 65}, 4097},
		{[]int64{362, 158}, 4114}, {[]int64{362, 158, 1}, 4115}, {[]int64{112, -62}, 4098}, {[]int64{248, 64}, 4104}, {[]int64{-249, 60}, 4104},
		{[]int64{1 << 17}, 131135}, {[]int64{1<<17 + 1}, 131135}, {[]int64{1<<17 - 1}, 131134}, {[]int64{-1 << 17}, 131135}, {[]int64{-1<<17 - 1}, 131135},
		{[]int64{math.MaxInt64}, 131135}, {[]int64{math.MinInt64}, 131135}, {[]int64{math.MinInt64, math.MaxInt64}, 185409},
		{repeat(1<<17, 32), 741466}, {repeat(math.MinInt64, 32), 741466}, {repeat(1, 32), 4096},
	} {
		mustGain(t, c.a, c.want)
		mustGain(t, c.a, gained(c.a))
		mustGain(t, backwards(c.a), c.want)
	}
	for n := 1; n <= 33; n++ {
		for _, v := range far {
			mustGain(t, repeat(v, n), gained(repeat(v, n)))
			mustGain(t, only(v, n-1, n), gained(only(v, n-1, n)))
		}
	}
}
