package lpc_test

import (
	"math"
	"math/cmplx"
	"slices"
	"testing"

	"madrigal/api"
	"madrigal/lpc"
	"madrigal/lsf"
)

// far are numbers at, past and far past the bounds of frequencies, of filters, and of products, and the least and greatest that there are.
var far = []int64{
	math.MinInt64, math.MinInt64 + 1, math.MinInt64 + 32768, -1 << 62, -1 << 52, -1 << 51, -1 << 32, -1<<31 - 1, -1 << 31, -1<<31 + 1,
	-1<<17 - 1, -1 << 17, -1<<17 + 1, -65536, -32769, -32768, -4096, -4092, -4091, -2, -1, 0, 1, 2, 4091, 4092, 4096,
	32767, 32768, 32769, 65535, 65536, 65537, 98304, 1<<17 - 1, 1 << 17, 1<<17 + 1,
	1<<31 - 1, 1 << 31, 1<<31 + 1, 1 << 32, 1 << 51, 1 << 52, 1 << 62, math.MaxInt64 - 32768, math.MaxInt64 - 1, math.MaxInt64,
}

func repeat(v int64, n int) []int64 { return slices.Repeat([]int64{v}, n) }

// only is n numbers, v at k and noughts else.
func only(v int64, k, n int) []int64 {
	a := make([]int64, n)
	a[k] = v
	return a
}

// alikeApart is n frequencies that part 0 to 32768 alike.
func alikeApart(n int) []int64 {
	l := make([]int64, n)
	for k := range l {
		l[k] = int64(32768 * (k + 1) / (n + 1))
	}
	return l
}

func rising(v, step int64, n int) []int64 {
	l := make([]int64, n)
	for k := range l {
		l[k] = v + step*int64(k)
	}
	return l
}

func backwards(l []int64) []int64 {
	b := slices.Clone(l)
	slices.Reverse(b)
	return b
}

// mustHold holds P7.4: what is answered is Stable, and Fit leaves it.
func mustHold(t *testing.T, what string, l, a []int64) {
	t.Helper()
	if !lpc.Stable(a) {
		t.Errorf("P7.4: %s(%d) is not Stable: %d", what, l, a)
	}
	if f := lpc.Fit(a); !slices.Equal(f, a) {
		t.Errorf("P7.4: Fit of %s(%d), %d: %d", what, l, a, f)
	}
}

func mustFrom(t *testing.T, l, want []int64) {
	t.Helper()
	a, e := lpc.From(l)
	if e != api.OK || !slices.Equal(a, want) {
		t.Errorf("P7.1: From(%d): %d, %d; want %d", l, a, e, want)
	}
	mustHold(t, "From", l, a)
}

func mustNotFrom(t *testing.T, l []int64) {
	t.Helper()
	if a, e := lpc.From(l); e != api.EARG || len(a) != 0 {
		t.Errorf("P7.1: From of %d numbers: %d, %d; want EARG and no numbers", len(l), a, e)
	}
}

func mustStable(t *testing.T, a []int64, want bool) {
	t.Helper()
	if lpc.Stable(a) != want {
		t.Errorf("P7.2: Stable(%d): %t", a, !want)
	}
}

func mustFit(t *testing.T, a, want []int64) {
	t.Helper()
	f := lpc.Fit(a)
	if !slices.Equal(f, want) {
		t.Errorf("P7.3: Fit(%d): %d, want %d", a, f, want)
	}
	mustHold(t, "Fit", a, f)
}

func mustChirp(t *testing.T, a []int64, c int64, want []int64) {
	t.Helper()
	if f := lpc.Chirp(a, c); !slices.Equal(f, want) {
		t.Errorf("P7.3: Chirp(%d, %d): %d, want %d", a, c, f, want)
	}
}

func mustGain(t *testing.T, a []int64, want int64) {
	t.Helper()
	if g := lpc.Gain(a); g != want {
		t.Errorf("P7.3: Gain(%d): %d, want %d", a, g, want)
	}
}

// fitOf is the reference's.
func fitOf(a []int64) []int64 {
	f, _ := fitted(a)
	return f
}

func TestExamples(t *testing.T) {
	mustStable(t, []int64{4096}, false)
	mustStable(t, []int64{4000}, true)
	for _, order := range []int{10, 16} {
		a, e := lpc.From(alikeApart(order))
		if e != api.OK || len(a) != order || slices.Max(a) > 8 || slices.Min(a) < -8 {
			t.Errorf("From of %d frequencies alike apart: %d, %d", order, a, e)
		}
	}
}

func TestFromAsksForItsLength(t *testing.T) {
	mustNotFrom(t, nil)
	for n := range 80 {
		if n == 10 || n == 16 {
			mustFrom(t, alikeApart(n), fitOf(raw(alikeApart(n))))
			continue
		}
		mustNotFrom(t, make([]int64, n))
		mustNotFrom(t, alikeApart(n))
		mustNotFrom(t, repeat(math.MinInt64, n))
	}
	mustNotFrom(t, make([]int64, 1<<16+10))
}

// These were reckoned apart from the program, in another language: first those that are Stable at once.
func TestFrom(t *testing.T) {
	for _, c := range [][2][]int64{
		{{2210, 6461, 9176, 11891, 14606, 17321, 21572, 24287, 27002, 29717}, {-189, 308, -420, -140, 918, 300, 86, 549, 435, -167}},
		{{2682, 6133, 10048, 11163, 15878, 16193, 21708, 22759, 27074, 30189}, {123, -915, -356, 822, 103, 987, -185, 653, 232, -2227}},
		{{2978, 5957, 8936, 11915, 14894, 17873, 20852, 23831, 26810, 29789}, {1, 1, 0, 0, 0, 0, 0, 0, 0, 0}},
		{{5000, 4000, 3000, 2000, 1000, 20000, 19000, 18000, 17000, 16000}, {16327, -31625, 46210, -57125, 54664, -40814, 25774, -11578, 1920, 339}},
		{
			{1479, 4149, 5922, 7696, 9469, 11243, 13912, 15686, 17459, 19233, 21006, 22780, 25449, 27223, 28996, 30770},
			{-141, 47, -11, 257, -477, -262, 661, 192, 440, 112, -130, 424, 351, 113, 158, -247},
		},
		{
			{2479, 3149, 6922, 7172, 10469, 10719, 13912, 15686, 18459, 18709, 21256, 22530, 25949, 26473, 29996, 31770},
			{-653, -690, -661, -231, -1455, 297, 163, 560, -1183, 398, -652, -13, -740, -1407, -775, -2419},
		},
		{
			{1927, 3855, 5782, 7710, 9637, 11565, 13492, 15420, 17347, 19275, 21202, 23130, 25057, 26985, 28912, 30840},
			{2, -1, 1, -1, 0, 0, 0, 0, 1, 1, 1, 1, 0, 0, 0, 1},
		},
	} {
		mustFrom(t, c[0], c[1])
	}
}

func TestFromOfWhatMustBeFit(t *testing.T) {
	for _, c := range [][2][]int64{
		{rising(250, 250, 10), {8423, -5667, 1178, -245, 50, -11, 2, -1, 1, -1}},
		{rising(30268, 250, 10), {-8422, -5667, -1178, -245, -50, -11, -2, -1, -1, -1}},
		{{0, 0, 3000, 6000, 9000, 12000, 15000, 20000, 25000, 32768}, {10838, -9672, 1125, 4999, -5301, 3098, -1694, 1180, -643, 156}},
		{{-5, 3000, 6000, 9000, 12000, 15000, 18000, 21000, 28000, 40000}, {5987, -1546, -2524, 4566, -4127, 2088, 50, -1151, 1029, -351}},
		{backwards(alikeApart(10)), {1, -5550, 3, -3759, 4, -2546, 4, -1725, 3, -1169}},
		{backwards(alikeApart(16)), {2, -5551, 4, -3762, 5, -2548, 4, -1725, 3, -1169, 4, -792, 5, -536, 4, -363}},
		{rising(250, 250, 16), {3740, -451, 27, -1, 1, -1, 1, -1, 1, -1, 1, -1, 1, -1, 1, -1}},
		{repeat(0, 10), {8516, -5667, 1178, -245, 50, -11, 2, -1, 1, -1}},
		{repeat(32768, 10), {-8516, -5667, -1178, -245, -50, -11, -2, -1, -1, -1}},
		{repeat(16384, 10), {0, -13874, 0, -18796, 0, -12733, 0, -4314, 0, -583}},
		{repeat(8192, 10), {6022, -4427, 1178, -245, 50, -11, 2, -1, 1, -1}},
		{repeat(0, 16), {3843, -451, 27, -1, 1, -1, 1, -1, 1, -1, 1, -1, 1, -1, 1, -1}},
		{repeat(32768, 16), {-3842, -451, -26, -1, -1, -1, -1, -1, -1, -1, -1, -1, -1, -1, -1, -1}},
		{repeat(16384, 16), {0, -4875, 0, -2538, 0, -431, 0, -64, 0, -9, 0, -2, 0, -2, 0, -2}},
		{slices.Repeat([]int64{0, 32768}, 5), {0, -2678, 0, -54, 0, 1, 0, 1, 0, 1}},
		{slices.Repeat([]int64{32768, 0}, 8), {0, -2678, 0, -54, 0, -1, 0, -1, 0, -1, 0, -1, 0, -1, 0, -1}},
	} {
		mustFrom(t, c[0], c[1])
	}
}

func TestFromOfEveryOne(t *testing.T) {
	for _, order := range []int{10, 16} {
		for one := range 16 {
			for v := -4; v <= 4; v++ {
				for k := range order {
					x := lsf.Index{One: one, Two: slices.Repeat([]int{-v / 2}, order)}
					x.Two[k] = v
					l, _ := lsf.Decode(order, x)
					mustFrom(t, l, fitOf(raw(l)))
				}
			}
		}
	}
}

// Frequencies that do not rise, or are alike, in all the places that a few of them can have.
func TestFromOfFrequenciesThatDoNotRise(t *testing.T) {
	for _, order := range []int{10, 16} {
		for v := int64(0); v <= 32768; v += 512 {
			mustFrom(t, repeat(v, order), fitOf(raw(repeat(v, order))))
		}
		for k := range order {
			for j := range order {
				l := alikeApart(order)
				l[k], l[j] = l[j], l[k]
				mustFrom(t, l, fitOf(raw(l)))
				l[k] = l[j]
				mustFrom(t, l, fitOf(raw(l)))
			}
		}
		for step := int64(-2000); step <= 2000; step += 50 {
			l := rising(16384-step*int64(order)/2, step, order)
			mustFrom(t, l, fitOf(raw(l)))
		}
	}
}

func TestFromClampsEach(t *testing.T) {
	for _, order := range []int{10, 16} {
		for _, v := range far {
			clamped := within(v, 0, 32768)
			mustFrom(t, repeat(v, order), fitOf(raw(repeat(clamped, order))))
			for k := range order {
				l, m := alikeApart(order), alikeApart(order)
				l[k], m[k] = v, clamped
				mustFrom(t, l, fitOf(raw(m)))
			}
		}
	}
}

// What From answers, when it needs no weakening, has the frequencies that it was asked for: there the filter and itself backwards add up to nothing, or are the same.
func TestFromHasItsFrequencies(t *testing.T) {
	for _, order := range []int{10, 16} {
		for one := range 16 {
			l, _ := lsf.Decode(order, lsf.Index{One: one, Two: make([]int, order)})
			a, _ := lpc.From(l)
			if !slices.Equal(a, raw(l)) {
				t.Errorf("P7.1: From(%d) is weakened", l)
			}
			for k, v := range l {
				z := cmplx.Rect(1, -math.Pi*float64(v)/32768)
				there, back := complex(1, 0), cmplx.Pow(z, complex(float64(order+1), 0))
				for j, c := range a {
					there -= complex(float64(c)/4096, 0) * cmplx.Pow(z, complex(float64(j+1), 0))
					back -= complex(float64(c)/4096, 0) * cmplx.Pow(z, complex(float64(order-j), 0))
				}
				off := there + back
				if k%2 == 1 {
					off = there - back
				}
				if cmplx.Abs(off) > 0.01 {
					t.Errorf("P7.1: From(%d) does not have frequency %d: off by %f", l, k, cmplx.Abs(off))
				}
			}
		}
	}
}
