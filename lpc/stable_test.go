package lpc_test

import (
	"math"
	"slices"
	"testing"

	"madrigal/lpc"
)

// grown are filters of which a number grows past 2^31 on the way down. Were it not clamped there, each would be told the other way.
var grownStable = [][]int64{
	{13462, -28641, 49680, -75196, 100271, -117648, 121314, -109077, 81208, -40070, -7300, 50652, -82500, 99819, -101603, 89338, -68475, 46007, -26928, 12843, -3965},
	{11827, -24655, 44557, -68990, 93144, -113344, 124008, -118623, 96733, -62054, 16941, 29259, -67007, 93427, -104132, 98825, -83395, 63056, -41360, 23169, -11274, 3962},
	{12066, -26226, 45439, -67577, 89122, -106342, 116224, -114719, 100489, -73323, 36325, 5470, -44181, 74481, -92848, 98946, -93602, 80417, -62173, 42464, -24825, 11543, -3973},
	{9877, -17128, 29044, -45070, 61724, -79206, 98416, -113744, 122425, -126911, 124511, -111334, 90433, -65089, 34783, -216, -31191, 58550, -82251, 98898, -105116, 104490, -99560, 87703, -71457, 56398, -41683, 27080, -16075, 9396, -3957},
	{10335, -20153, 32798, -47212, 62488, -78841, 95389, -109807, 121367, -127078, 125370, -115891, 98335, -75091, 47505, -17643, -12687, 41696, -67226, 87780, -100758, 106247, -104343, 96361, -85173, 71418, -57355, 43897, -30846, 19143, -9901, 3956},
}

var grownNotStable = [][]int64{
	{13288, -31138, 57656, -86821, 113092, -125965, 118875, -90531, 44002, 9084, -58522, 92045, -105521, 99067, -78284, 53161, -29173, 12627, -3956},
	{12027, -27055, 48886, -74021, 99158, -116034, 120646, -108096, 79395, -38991, -6948, 49499, -82111, 99698, -100470, 88604, -67580, 45428, -25485, 11460, -3968},
	{14438, -31490, 56183, -84401, 109354, -125091, 127866, -117053, 95188, -66573, 34277, 37, -33848, 65378, -91325, 106991, -109349, 98469, -77616, 52464, -29771, 13819, -3960},
	{10054, -21206, 37362, -56903, 78583, -97173, 110892, -114223, 105823, -84550, 52662, -14686, -24059, 58206, -82886, 95372, -96365, 86693, -71590, 52652, -35029, 20111, -9634, 3980},
	{8825, -16218, 27642, -40778, 56881, -73542, 90980, -107135, 119104, -126020, 124662, -116489, 100616, -76554, 48700, -17388, -14428, 43772, -70220, 89172, -100878, 106006, -102849, 94448, -81488, 66739, -52275, 37855, -25910, 15300, -8399, 3958},
}

// clampedStable are Stable as one number of theirs is clamped: k tells which. clampedNotStable would be, were it not.
var clampedStable = []struct {
	k int
	a []int64
}{
	{5, []int64{-15224, -36762, -67370, -99881, -124442, -131210, -118884, -91146, -58480, -30310, -11820, -2982}},
	{8, []int64{10871, -22073, 38394, -59268, 81936, -103296, 120658, -130632, 131388, -123055, 106988, -86299, 64035, -42989, 25675, -13597, 6098, -1623}},
	{13, []int64{-12953, -30301, -55017, -84903, -112381, -130292, -130238, -108165, -65335, -9425, 48222, 95888, 124616, 131125, 118792, 93793, 64705, 38292, 18895, 7006, 1771}},
}

var clampedNotStable = [][]int64{
	{-15929, -38530, -69945, -103040, -127989, -135828, -123596, -96003, -62730, -33005, -12819, -3094},
	{21606, -58992, 105727, -131272, 105711, -28474, -63521, 122099, -124917, 87348, -42545, 13376, -2071},
	{17137, -43053, 78953, -113940, 134242, -131052, 106062, -69929, 36222, -13661, 3026},
	{19829, -52029, 94605, -129563, 138333, -115970, 75389, -36453, 11836, -1987},
}

func TestStable(t *testing.T) {
	for _, c := range []struct {
		a    []int64
		want bool
	}{
		{nil, true}, {[]int64{}, true}, {[]int64{0}, true}, {make([]int64, 32), true}, {make([]int64, 33), false}, {make([]int64, 64), false},
		{[]int64{4091}, true}, {[]int64{4092}, false}, {[]int64{-4091}, true}, {[]int64{-4092}, false},
		{[]int64{0, 4091}, true}, {[]int64{0, 4092}, false}, {[]int64{0, -4091}, true}, {[]int64{0, -4092}, false},
		// behind the last of these 4096 less it times 0.999 is as much as the first may be
		{[]int64{2045, 2048}, true}, {[]int64{2046, 2048}, false}, {[]int64{-2045, 2048}, true}, {[]int64{-2046, 2048}, false},
		{[]int64{6137, -2048}, true}, {[]int64{6138, -2048}, false}, {[]int64{-6137, -2048}, true}, {[]int64{-6138, -2048}, false},
		{[]int64{8178, -4091}, true}, {[]int64{8179, -4091}, false}, {[]int64{4, 4091}, true}, {[]int64{5, 4091}, false},
		// on the way down these come to 16760438 and to one more, then to the same below 0
		{[]int64{7992, -3904}, true}, {[]int64{1062, 3152, -119}, false}, {[]int64{-4996, -906, -1}, true}, {[]int64{-7992, -3904}, false},
		{[]int64{1 << 17, -4091}, false}, {[]int64{-1 << 17, 4091}, false}, {[]int64{1 << 17, 0}, false}, {[]int64{0, 1 << 17}, false},
		{[]int64{math.MaxInt64, 0}, false}, {[]int64{0, 0, 0, math.MinInt64}, false}, {[]int64{math.MinInt64, 0, 0, 0}, false}, {[]int64{1 << 52}, false}, {[]int64{1 << 52, 0}, false}, {[]int64{0, -1 << 52, 0}, false},
	} {
		mustStable(t, c.a, c.want)
		if fallOf(c.a).stable() != c.want {
			t.Errorf("P7.2: %d is read in two ways", c.a)
		}
	}
}

// A filter of noughts but for one number fails there, or nowhere: at the first one, at the last one, or between.
func TestStableFailsAnywhere(t *testing.T) {
	for n := 1; n <= 34; n++ {
		for k := range n {
			for _, v := range far {
				mustStable(t, only(v, k, n), n <= 32 && v > -4092 && v < 4092)
			}
		}
		mustStable(t, repeat(math.MaxInt64, n), false)
		mustStable(t, repeat(math.MinInt64, n), false)
		mustStable(t, repeat(-1<<17, n), false)
	}
}

func TestStableOfOneAndTwo(t *testing.T) {
	for v := int64(-4200); v <= 4200; v++ {
		mustStable(t, []int64{v}, v >= -4091 && v <= 4091)
	}
	for last := int64(-4100); last <= 4100; last += 41 {
		most := (4096 - last) * 16760438 / (1 << 24)
		for d := int64(-2); d <= 2; d++ {
			for _, a := range [][]int64{{most + d, last}, {-most - d, last}} {
				mustStable(t, a, fallOf(a).stable())
			}
		}
	}
}

func TestStableClampsOnTheWayDown(t *testing.T) {
	for _, a := range grownStable {
		mustStable(t, a, true)
		mustFit(t, a, a)
		if !fallOf(a).grown {
			t.Errorf("P7.2: no number of %d grows", a)
		}
	}
	for _, a := range grownNotStable {
		mustStable(t, a, false)
		mustFit(t, a, chirped(a, 63488))
		if !fallOf(a).grown {
			t.Errorf("P7.2: no number of %d grows", a)
		}
	}
}

func TestStableClampsEach(t *testing.T) {
	for _, c := range clampedStable {
		bound := within17(c.a[c.k])
		sign := bound >> 17 // 1 or -1
		a := slices.Clone(c.a)
		for _, past := range []int64{0, 1, 2, 100, 4096, 1 << 17, 1 << 30, 1 << 50, math.MaxInt64 - 1<<17} {
			a[c.k] = bound + sign*past
			want := slices.Clone(a)
			want[c.k] = bound
			mustStable(t, a, true)
			mustFit(t, a, want)
		}
		a[c.k] = -sign << 40
		mustStable(t, a, false)
	}
	for _, a := range clampedNotStable {
		mustStable(t, a, false)
		mustFit(t, a, fitOf(a))
		if f := lpc.Fit(a); slices.Equal(f, a) {
			t.Errorf("P7.3: Fit(%d) leaves what is too great", a)
		}
	}
	if lpc.Stable(repeat(math.MinInt64, 10)) || lpc.Stable([]int64{1, math.MaxInt64}) {
		t.Errorf("P7.2: the greatest numbers are Stable")
	}
}
