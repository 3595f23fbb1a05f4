package lsf_test

import (
	"math"
	"slices"
	"testing"

	"madrigal/api"
	"madrigal/lsf"
	"madrigal/tabs"
)

// far are numbers that no order, no One, no Two and no w is.
var far = []int{math.MinInt, math.MinInt + 1, -1 << 32, -256, -32, 1 << 32, 1<<32 + 1, 1<<32 + 10, 1<<32 + 16, math.MaxInt - 1, math.MaxInt}

// farFrequencies are below 0, above 32768, and about both.
var farFrequencies = []int64{
	math.MinInt64, math.MinInt64 + 1, math.MinInt64 + 32768, -1 << 62, -1 << 32, -32768, -250, -4, -1, 0, 1,
	32767, 32768, 32769, 33018, 65536, 1 << 31, 1 << 32, 1<<32 + 1, 1 << 62, math.MaxInt64 - 32768, math.MaxInt64 - 1, math.MaxInt64,
}

func orders() []int {
	return append([]int{-16, -10, -1, 0, 1, 8, 9, 10, 11, 12, 15, 16, 17, 20, 26, 64, 8000, 16000}, far...)
}

// repeat is a list of n times v.
func repeat[N int | int64](v N, n int) []N { return slices.Repeat([]N{v}, n) }

// rising is n numbers from v on, each step more than the one ahead.
func rising(v, step int64, n int) []int64 {
	l := make([]int64, n)
	for k := range l {
		l[k] = v + step*int64(k)
	}
	return l
}

// apart tells whether numbers rise by 250 at least, from 0 on and up to 32768.
func apart(l []int64) bool {
	ahead := int64(0)
	for _, v := range append(slices.Clone(l), 32768) {
		if v < ahead+250 {
			return false
		}
		ahead = v
	}
	return true
}

func mustDecode(t *testing.T, order int, x lsf.Index, want []int64) {
	t.Helper()
	if !lsf.Good(order, x) {
		t.Errorf("P6.1: Good(%d, %v): false", order, x)
	}
	l, e := lsf.Decode(order, x)
	if e != api.OK || !slices.Equal(l, want) {
		t.Errorf("P6.1: Decode(%d, %v): %d, %d; want %d", order, x, l, e, want)
	}
	if len(l) != order || !apart(l) {
		t.Errorf("P6.3: Decode(%d, %v): %d", order, x, l)
	}
}

func mustNotDecode(t *testing.T, order int, x lsf.Index) {
	t.Helper()
	if lsf.Good(order, x) {
		t.Errorf("P6.1: Good(%d, %v): true", order, x)
	}
	if l, e := lsf.Decode(order, x); e != api.EARG || len(l) != 0 {
		t.Errorf("P6.1: Decode(%d, %v): %d, %d; want EARG and no numbers", order, x, l, e)
	}
}

func mustSteady(t *testing.T, l, want []int64) {
	t.Helper()
	s := lsf.Steady(l)
	if !slices.Equal(s, want) {
		t.Errorf("P6.1: Steady(%d): %d, want %d", l, s, want)
	}
	if len(want) > 0 && !apart(s) {
		t.Errorf("P6.3: Steady(%d): %d", l, s)
	}
}

func mustGo(t *testing.T, a, b []int64, w int, want []int64) {
	t.Helper()
	if l, e := lsf.Between(a, b, w); e != api.OK || !slices.Equal(l, want) {
		t.Errorf("P6.2: Between(%d, %d, %d): %d, %d; want %d", a, b, w, l, e, want)
	}
}

func mustNotGo(t *testing.T, a, b []int64, w int) {
	t.Helper()
	if l, e := lsf.Between(a, b, w); e != api.EARG || len(l) != 0 {
		t.Errorf("P6.2: Between of %d numbers and %d by %d: %d, %d; want EARG and no numbers", len(a), len(b), w, l, e)
	}
}

func mustSearch(t *testing.T, order int, want []int64, x lsf.Index) {
	t.Helper()
	y, e := lsf.Search(order, want)
	if e != api.OK || y.One != x.One || !slices.Equal(y.Two, x.Two) {
		t.Errorf("P6.2: Search(%d, %d): %v, %d; want %v", order, want, y, e, x)
	}
	if !lsf.Good(order, y) {
		t.Errorf("P6.2: Search(%d, %d) is not Good: %v", order, want, y)
		return
	}
	if l, e := lsf.Decode(order, y); e != api.OK || !slices.Equal(l, decoded(order, y)) || !apart(l) {
		t.Errorf("P6.3: Decode of Search(%d, %d): %d, %d", order, want, l, e)
	}
}

func mustNotSearch(t *testing.T, order int, want []int64) {
	t.Helper()
	if x, e := lsf.Search(order, want); e != api.EARG || x.One != 0 || len(x.Two) != 0 {
		t.Errorf("P6.2: Search(%d) of %d numbers: %v, %d; want EARG and no index", order, len(want), x, e)
	}
}

func TestExamples(t *testing.T) {
	l, e := lsf.Decode(10, lsf.Index{One: 0, Two: make([]int, 10)})
	if e != api.OK || len(l) != 10 {
		t.Errorf("Decode(10, One 0, Two all 0): %d, %d", l, e)
	}
	mustSteady(t, []int64{5, 6}, []int64{250, 500})
}

func TestGoodAsksOrderOneAndLength(t *testing.T) {
	for _, order := range orders() {
		for _, one := range append([]int{-2, -1, 0, 1, 7, 14, 15, 16, 17, 31, 32}, far...) {
			for _, n := range []int{0, 1, 8, 9, 10, 11, 12, 15, 16, 17, 20, 26, 64, 65} {
				x := lsf.Index{One: one, Two: make([]int, n)}
				if (order == 10 || order == 16) && one >= 0 && one <= 15 && n == order {
					mustDecode(t, order, x, decoded(order, x))
				} else {
					mustNotDecode(t, order, x)
				}
			}
		}
		mustNotDecode(t, order, lsf.Index{})
		mustNotDecode(t, order, lsf.Index{One: 3, Two: []int{}})
	}
}

func TestGoodLooksAtEachNumber(t *testing.T) {
	for _, order := range []int{10, 16} {
		for k := range order {
			for _, v := range append([]int{-9, -6, -5, -4, -3, -1, 0, 1, 3, 4, 5, 6, 9}, far...) {
				x := lsf.Index{One: k % 16, Two: make([]int, order)}
				x.Two[k] = v
				if v >= -4 && v <= 4 {
					mustDecode(t, order, x, decoded(order, x))
				} else {
					mustNotDecode(t, order, x)
				}
			}
		}
	}
}

func TestDecode(t *testing.T) {
	for _, c := range []struct {
		order, one int
		two        []int
		want       []int64
	}{
		{10, 0, repeat(0, 10), []int64{2210, 6461, 9176, 11891, 14606, 17321, 21572, 24287, 27002, 29717}},
		{10, 7, []int{1, -1, 2, -2, 3, -3, 4, -4, 0, 1}, []int64{2682, 6133, 10048, 11163, 15878, 16193, 21708, 22759, 27074, 30189}},
		{10, 0, []int{4, -4, 4, -4, 0, 0, 4, -4, 4, 4}, []int64{3810, 4861, 10776, 11026, 14606, 17321, 23172, 23422, 28602, 31317}},
		{10, 15, repeat(4, 10), []int64{4842, 7557, 10272, 12987, 17238, 19953, 22668, 25383, 28098, 30813}},
		{10, 15, repeat(-4, 10), []int64{1642, 4357, 7072, 9787, 14038, 16753, 19468, 22183, 24898, 27613}},
		{16, 0, repeat(0, 16), []int64{1479, 4149, 5922, 7696, 9469, 11243, 13912, 15686, 17459, 19233, 21006, 22780, 25449, 27223, 28996, 30770}},
		{16, 0, []int{4, -4, 4, -4, 4, -4, 0, 0, 4, -4, 1, -1, 2, -3, 4, 4}, []int64{
			2479, 3149, 6922, 7172, 10469, 10719, 13912, 15686, 18459, 18709, 21256, 22530, 25949, 26473, 29996, 31770,
		}},
		{16, 15, repeat(4, 16), []int64{3081, 4855, 6628, 8402, 11071, 12845, 14618, 16392, 18165, 19939, 22608, 24382, 26155, 27929, 29702, 31476}},
	} {
		mustDecode(t, c.order, lsf.Index{One: c.one, Two: c.two}, c.want)
	}
}

func TestDecodeOfEveryOne(t *testing.T) {
	for _, order := range []int{10, 16} {
		for one := range 16 {
			mustDecode(t, order, lsf.Index{One: one, Two: make([]int, order)}, tabs.Lsf(order, one))
			for v := -4; v <= 4; v++ {
				x := lsf.Index{One: one, Two: repeat(v, order)}
				mustDecode(t, order, x, decoded(order, x))
				for k := range order {
					x := lsf.Index{One: one, Two: repeat(-v, order)}
					x.Two[k] = v
					mustDecode(t, order, x, decoded(order, x))
				}
			}
		}
	}
}

func TestSteadyOfFew(t *testing.T) {
	mustSteady(t, nil, nil)
	mustSteady(t, []int64{}, nil)
	for _, c := range [][2]int64{
		{0, 250}, {1, 250}, {249, 250}, {250, 250}, {251, 251}, {16384, 16384},
		{32517, 32517}, {32518, 32518}, {32519, 32518}, {32767, 32518}, {32768, 32518},
	} {
		mustSteady(t, []int64{c[0]}, []int64{c[1]})
	}
	for _, v := range farFrequencies {
		if v < 250 {
			mustSteady(t, []int64{v}, []int64{250})
			mustSteady(t, []int64{v, v}, []int64{250, 500})
			mustSteady(t, []int64{9000, v, 9251}, []int64{9000, 9250, 9500})
		}
		if v > 32518 {
			mustSteady(t, []int64{v}, []int64{32518})
			mustSteady(t, []int64{v, v}, []int64{32268, 32518})
			mustSteady(t, []int64{9000, v, 9000}, []int64{9000, 32268, 32518})
		}
	}
}

func TestSteadyOfNeighbours(t *testing.T) {
	for _, c := range [][2][]int64{
		{{1000, 1249}, {1000, 1250}}, {{1000, 1250}, {1000, 1250}}, {{1000, 1251}, {1000, 1251}},
		{{1000, 999}, {1000, 1250}}, {{1000, 0}, {1000, 1250}}, {{1000, 1000}, {1000, 1250}},
		{{249, 499}, {250, 500}}, {{250, 499}, {250, 500}}, {{250, 500}, {250, 500}}, {{251, 500}, {251, 501}}, {{251, 501}, {251, 501}},
		{{32267, 32517}, {32267, 32517}}, {{32268, 32518}, {32268, 32518}}, {{32269, 32519}, {32268, 32518}},
		{{32268, 32517}, {32268, 32518}}, {{32269, 32517}, {32268, 32518}}, {{32267, 32519}, {32267, 32518}}, {{32269, 0}, {32268, 32518}},
		{{1000, 1100, 1200, 1300}, {1000, 1250, 1500, 1750}}, {{5000, 100, 5251, 5252}, {5000, 5250, 5500, 5750}},
		{{32000, 31000, 30000, 29000}, {31768, 32018, 32268, 32518}}, {{100, 32000, 32100, 32200}, {250, 32000, 32250, 32500}},
		{{100, 32001, 32251, 32501}, {250, 32001, 32251, 32501}}, {{100, 32019, 32200, 32201}, {250, 32018, 32268, 32518}},
		{{32768, 0, 32768, 0}, {31768, 32018, 32268, 32518}}, {{0, 32768, 0, 32768}, {250, 32018, 32268, 32518}},
	} {
		mustSteady(t, c[0], c[1])
	}
}

func TestSteadyOfMany(t *testing.T) {
	mustSteady(t, repeat(int64(0), 64), rising(250, 250, 64))
	mustSteady(t, repeat(int64(math.MinInt64), 64), rising(250, 250, 64))
	mustSteady(t, repeat(int64(32768), 64), rising(16768, 250, 64))
	mustSteady(t, repeat(int64(math.MaxInt64), 64), rising(16768, 250, 64))
	mustSteady(t, rising(300, 500, 64), rising(300, 500, 64))
	mustSteady(t, repeat(int64(0), 63), rising(250, 250, 63))
	for _, n := range []int{65, 66, 128, 1000, 1 << 16} {
		mustSteady(t, make([]int64, n), nil)
		mustSteady(t, rising(250, 300, n), nil)
	}
	for n := range 67 {
		for _, l := range [][]int64{repeat(int64(0), n), repeat(int64(20000), n), rising(1, 400, n), rising(40000, -900, n)} {
			mustSteady(t, l, steadied(l))
		}
	}
}

func TestBetween(t *testing.T) {
	for _, c := range []struct {
		a, b int64
		want [5]int64
	}{
		{0, 0, [5]int64{}}, {0, 1, [5]int64{0, 0, 0, 0, 1}}, {0, 2, [5]int64{0, 0, 1, 1, 2}}, {0, 3, [5]int64{0, 0, 1, 2, 3}},
		{0, 4, [5]int64{0, 1, 2, 3, 4}}, {0, 5, [5]int64{0, 1, 2, 3, 5}}, {1, 0, [5]int64{1, 0, 0, 0, 0}}, {2, 0, [5]int64{2, 1, 1, 0, 0}},
		{3, 0, [5]int64{3, 2, 1, 0, 0}}, {4, 0, [5]int64{4, 3, 2, 1, 0}}, {5, 0, [5]int64{5, 3, 2, 1, 0}}, {100, 93, [5]int64{100, 98, 96, 94, 93}},
		{100, 107, [5]int64{100, 101, 103, 105, 107}}, {32768, 32767, [5]int64{32768, 32767, 32767, 32767, 32767}},
		{-4, 8, [5]int64{0, 2, 4, 6, 8}}, {8, -4, [5]int64{8, 6, 4, 2, 0}}, {-9, -5, [5]int64{}}, {-1, 32769, [5]int64{0, 8192, 16384, 24576, 32768}},
		{32772, 32760, [5]int64{32768, 32766, 32764, 32762, 32760}}, {40000, 50000, [5]int64{32768, 32768, 32768, 32768, 32768}},
		{math.MinInt64, math.MaxInt64, [5]int64{0, 8192, 16384, 24576, 32768}}, {math.MaxInt64, math.MinInt64, [5]int64{32768, 24576, 16384, 8192, 0}},
	} {
		for w, want := range c.want {
			mustGo(t, []int64{c.a}, []int64{c.b}, w, []int64{want})
			mustGo(t, []int64{7, c.a, c.b}, []int64{7, c.b, c.a}, w, []int64{7, want, between([]int64{c.b}, []int64{c.a}, w)[0]})
		}
	}
}

func TestBetweenOfLengths(t *testing.T) {
	for n := range 67 {
		a, b := rising(50, 509, n), rising(32000, -503, n)
		for w := range 5 {
			if n > 64 {
				mustNotGo(t, a, b, w)
				continue
			}
			mustGo(t, a, b, w, between(a, b, w))
			mustGo(t, a, a, w, between(a, a, w))
			mustNotGo(t, a, append(b, 1), w)
			mustNotGo(t, append(a, 1), b, w)
		}
	}
	for w := range 5 {
		mustGo(t, nil, nil, w, nil)
		mustGo(t, []int64{}, nil, w, nil)
		mustGo(t, nil, []int64{}, w, nil)
		mustNotGo(t, nil, []int64{1}, w)
		mustNotGo(t, make([]int64, 128), make([]int64, 128), w)
		mustNotGo(t, make([]int64, 64), make([]int64, 128), w)
	}
}

func TestBetweenOfWrongWays(t *testing.T) {
	for _, w := range append([]int{-5, -4, -3, -2, -1, 5, 6, 8, 400}, far...) {
		mustNotGo(t, nil, nil, w)
		mustNotGo(t, []int64{5}, []int64{5}, w)
		mustNotGo(t, make([]int64, 64), make([]int64, 64), w)
		mustNotGo(t, make([]int64, 65), make([]int64, 65), w)
		mustNotGo(t, make([]int64, 3), make([]int64, 4), w)
	}
}

func TestBetweenOfAllDifferences(t *testing.T) {
	for _, from := range []int64{-3, 0, 1, 2, 3, 100, 16383, 32760, 32768, 32770} {
		for d := int64(-130); d <= 130; d++ {
			for w := range 5 {
				a, b := []int64{from}, []int64{from + d}
				mustGo(t, a, b, w, between(a, b, w))
			}
		}
	}
	for _, v := range farFrequencies {
		for _, u := range farFrequencies {
			for w := range 5 {
				a, b := []int64{v, u, 9}, []int64{u, v, 9}
				mustGo(t, a, b, w, between(a, b, w))
			}
		}
	}
}

func TestSearch(t *testing.T) {
	for _, c := range []struct {
		order, one  int
		differences []int64
		two         []int
	}{
		{10, 7, []int64{400, -400, 199, -200, 200, 600, -601, 0, 1, -1}, []int{1, -1, 0, 0, 1, 2, -2, 0, 0, 0}},
		{10, 4, []int64{-600, 599, -201, -199, 201, 0, 400, -399, 200, -200}, []int{-1, 1, -1, 0, 1, 0, 1, -1, 1, 0}},
		{16, 11, []int64{250, -250, 124, -125, 125, 375, -376, 0, 1, -1, 374, -375, -126, -124, 126, 249}, []int{1, -1, 0, 0, 1, 2, -2, 0, 0, 0, 1, -1, -1, 0, 1, 1}},
		{16, 0, []int64{0, 0, 0, 0, 0, 0, 0, 0, 0, 0, 0, 0, 0, 0, 0, 1998}, []int{0, 0, 0, 0, 0, 0, 0, 0, 0, 0, 0, 0, 0, 0, 0, 4}},
	} {
		want := tabs.Lsf(c.order, c.one)
		for k, d := range c.differences {
			want[k] += d
		}
		mustSearch(t, c.order, want, lsf.Index{One: c.one, Two: c.two})
	}
}

func TestSearchFindsEveryOne(t *testing.T) {
	for _, order := range []int{10, 16} {
		for one := range 16 {
			mustSearch(t, order, tabs.Lsf(order, one), lsf.Index{One: one, Two: make([]int, order)})
			for k := range order {
				for _, d := range []int64{-30, 30} {
					want := tabs.Lsf(order, one)
					want[k] += d
					mustSearch(t, order, want, lsf.Index{One: one, Two: make([]int, order)})
				}
			}
		}
	}
}

func TestSearchOfFarOnes(t *testing.T) {
	mustSearch(t, 10, repeat(int64(math.MaxInt64), 10), lsf.Index{One: 12, Two: repeat(4, 10)})
	mustSearch(t, 10, repeat(int64(-5), 10), lsf.Index{One: 1, Two: repeat(-4, 10)})
	mustSearch(t, 16, repeat(int64(40000), 16), lsf.Index{One: 12, Two: repeat(4, 16)})
	mustSearch(t, 16, repeat(int64(math.MinInt64), 16), lsf.Index{One: 1, Two: repeat(-4, 16)})
	mustSearch(t, 16, rising(-100, 2200, 16), lsf.Index{One: 11, Two: []int{-4, -4, -4, -4, -4, -3, -1, 1, -1, 1, 2, 4, 4, 4, 4, 4}})
	mustSearch(t, 16, rising(33000, -2000, 16), lsf.Index{One: 12, Two: []int{4, 4, 4, 4, 4, 4, 4, 4, -2, -4, -4, -4, -4, -4, -4, -4}})
	want := tabs.Lsf(10, 3)
	want[9] += 9000
	mustSearch(t, 10, want, lsf.Index{One: 13, Two: []int{1, 1, 1, 1, -3, 1, 1, 1, 1, 4}})
}

func TestSearchOfWrongOnes(t *testing.T) {
	for _, order := range orders() {
		for _, n := range []int{0, 1, 9, 10, 11, 12, 15, 16, 17, 20, 26, 64, 65, 8000} {
			if n != order || order != 10 && order != 16 {
				mustNotSearch(t, order, rising(300, 1000, n))
			}
		}
		mustNotSearch(t, order, nil)
	}
}

// Differences of one number about every half of f, as far as past what Two can tell: every step of it is met with the One that was meant.
func TestSearchAboutHalves(t *testing.T) {
	for order, f := range units() {
		met := map[int64]int{}
		for one := range 16 {
			for k := range order {
				for q := int64(-7); q <= 7; q++ {
					for _, d := range []int64{-2, -1, 0, 1} {
						difference := q*f + f/2 + d
						want := tabs.Lsf(order, one)
						want[k] += difference
						x := sought(order, want)
						mustSearch(t, order, want, x)
						if x.One == one && want[k] >= 0 && want[k] <= 32768 {
							met[difference]++
						}
					}
				}
			}
		}
		for q := int64(-6); q <= 5; q++ {
			for _, d := range []int64{-1, 0} {
				if met[q*f+f/2+d] == 0 {
					t.Errorf("P6.2: no Search of order %d met a difference of %d", order, q*f+f/2+d)
				}
			}
		}
	}
}

// Half-way between the frequencies of two Ones both are equally near; some lie so between three.
func TestSearchOfEquallyNear(t *testing.T) {
	for _, order := range []int{10, 16} {
		equally := 0
		for one := range 16 {
			for other := range one {
				want := between(tabs.Lsf(order, one), tabs.Lsf(order, other), 2)
				d := distances(order, want)
				if d[one] != d[other] {
					t.Errorf("P6.2: Ones %d and %d of order %d are not equally near", one, other, order)
				}
				if slices.Min(d) == d[one] {
					equally++
				}
				mustSearch(t, order, want, sought(order, want))
			}
		}
		if equally < 60 {
			t.Errorf("P6.2: only %d times two Ones of order %d are the nearest", equally, order)
		}
	}
	mustSearch(t, 10, []int64{2330, 6581, 9296, 12011, 14726, 17441, 20924, 24407, 27122, 29837}, lsf.Index{One: 0, Two: []int{0, 0, 0, 0, 0, 0, -2, 0, 0, 0}})
	mustSearch(t, 10, []int64{3002, 6485, 9200, 11915, 14630, 17345, 20828, 24311, 27026, 29741}, lsf.Index{One: 12, Two: []int{-2, 0, 0, 0, 0, 0, -2, 0, 0, 0}})
}

func TestSearchClamps(t *testing.T) {
	for _, order := range []int{10, 16} {
		for _, v := range farFrequencies {
			all := repeat(v, order)
			mustSearch(t, order, all, sought(order, all))
			within := repeat(clamped(v), order)
			mustSearch(t, order, all, sought(order, within))
			for k := range order {
				for one := range 16 {
					want := tabs.Lsf(order, one)
					want[k] = v
					mustSearch(t, order, want, sought(order, want))
				}
			}
		}
	}
}
