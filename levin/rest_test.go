package levin_test

import (
	"math"
	"slices"
	"testing"

	"madrigal/api"
	"madrigal/levin"
)

func mustRest(t *testing.T, what string, x, a, want []int64) {
	t.Helper()
	if l, e := levin.Rest(x, a); e != api.OK || !slices.Equal(l, want) {
		t.Fatalf("P12.2: %s: Rest of %d numbers by %d: %d, %d, want %d", what, len(x), a, l, e, want)
	}
}

func mustNotRest(t *testing.T, x, a []int64) {
	t.Helper()
	if l, e := levin.Rest(x, a); e != api.EARG || l != nil {
		t.Fatalf("P12.2: Rest of %d numbers by %d: %d, %d, want EARG", len(x), len(a), l, e)
	}
}

func TestRestByHand(t *testing.T) {
	for _, c := range []struct {
		what       string
		x, a, want []int64
	}{
		{"the chapter's example", []int64{5, 5}, []int64{4096}, []int64{5, 0}},
		{"neither", nil, nil, []int64{}},
		{"no sound", nil, []int64{4096, 1}, []int64{}},
		{"no filter", []int64{3, -4, 32767, -32768}, nil, []int64{3, -4, 32767, -32768}},
		{"no filter, and numbers beyond", []int64{32768, -32769}, []int64{}, []int64{32767, -32768}},
		{"a filter of noughts", []int64{3, -4, 5}, []int64{0, 0}, []int64{3, -4, 5}},
		{"one number", []int64{-9}, []int64{4096, 4096}, []int64{-9}},
		{"silence ahead", []int64{100, 200, 300}, []int64{2048, -4096}, []int64{100, 150, 300}},
		{"a filter that is longer", []int64{100, 200}, []int64{4096, 4096, 4096, 4096}, []int64{100, 100}},
		{"a pulse tells the filter", []int64{4096, 0, 0, 0, 0}, []int64{7, -8, 9}, []int64{4096, -7, 8, -9, 0}},
		{"the last one has none behind it", []int64{0, 0, 0, 4096}, []int64{7, -8, 9}, []int64{0, 0, 0, 4096}},
		{"one of -1 is a sum", []int64{1, 1, 1}, []int64{-4096}, []int64{1, 2, 2}},
		{"its signs turned", []int64{-100, -200, -300}, []int64{2048, -4096}, []int64{-100, -150, -300}},
		// each product is to the nearest, halves up: not the sum of them
		{"a half", []int64{1, 0}, []int64{2048}, []int64{1, -1}},
		{"a half below 0", []int64{-1, 0}, []int64{2048}, []int64{-1, 0}},
		{"less than a half", []int64{1, 0}, []int64{2047}, []int64{1, 0}},
		{"less than a half below 0", []int64{-1, 0}, []int64{2047}, []int64{-1, 0}},
		{"more than a half below 0", []int64{-1, 0}, []int64{2049}, []int64{-1, 1}},
		{"two halves", []int64{1, 1, 0}, []int64{2048, 2048}, []int64{1, 0, -2}},
		{"two that are less", []int64{1, 1, 0}, []int64{2047, 2047}, []int64{1, 1, 0}},
		{"a half either way", []int64{1, -1, 0}, []int64{2048, 2048}, []int64{1, -2, -1}},
		// the edges
		{"the greatest number of a filter", []int64{4096, 0}, []int64{1 << 17}, []int64{4096, -1 << 17}},
		{"one beyond", []int64{4096, 0}, []int64{1<<17 + 1}, []int64{4096, -1 << 17}},
		{"one within", []int64{4096, 0}, []int64{1<<17 - 1}, []int64{4096, -1<<17 + 1}},
		{"the least number of a filter", []int64{4096, 0}, []int64{-1 << 17}, []int64{4096, 1 << 17}},
		{"one below it", []int64{4096, 0}, []int64{-1<<17 - 1}, []int64{4096, 1 << 17}},
		{"one above it", []int64{4096, 0}, []int64{-1<<17 + 1}, []int64{4096, 1<<17 - 1}},
		{"samples at the edges", []int64{32767, -32768, 0}, []int64{4096}, []int64{32767, -65535, 32768}},
		{"samples beyond", []int64{32768, -32769, 0}, []int64{4096}, []int64{32767, -65535, 32768}},
		{"samples within", []int64{32766, -32767, 0}, []int64{4096}, []int64{32766, -65533, 32767}},
		{"all at the edges", []int64{-32768, 32767, -32768}, []int64{1 << 17, -1 << 17}, []int64{-32768, 1081343, -2129888}},
		{"all beyond", []int64{math.MinInt64, math.MaxInt64, math.MinInt64}, []int64{math.MaxInt64, math.MinInt64}, []int64{-32768, 1081343, -2129888}},
		{"a great sample", []int64{99999, 1}, []int64{math.MaxInt64}, []int64{32767, -1048543}},
	} {
		mustRest(t, c.what, c.x, c.a, c.want)
		if l := restApart(c.x, c.a); !slices.Equal(l, c.want) {
			t.Errorf("P12.2: %s is read in two ways: %d", c.what, l)
		}
	}
}

// A filter and a sound of each length about the edges: those that may be, and those that may not.
func TestEdgesOfRest(t *testing.T) {
	for _, n := range []int{0, 1, 2, 15, 31, 32, 33, 34, 958, 959, 960} {
		for _, order := range []int{0, 1, 2, 31, 32} {
			want := make([]int64, n)
			for k := range want {
				want[k] = 3 - 6*int64(min(k, order))
			}
			mustRest(t, "one number over and over", repeat(3, n), repeat(8192, order), want)
		}
		for _, order := range []int{33, 34, 64, 960, 1<<16 + 1} {
			mustNotRest(t, repeat(3, n), repeat(8192, order))
			mustNotRest(t, repeat(3, n), make([]int64, order))
		}
	}
	for _, n := range []int{961, 962, 1024, 1920, 1<<16 + 5} {
		for _, order := range []int{0, 1, 16, 32, 33, 34} {
			mustNotRest(t, repeat(3, n), repeat(8192, order))
			mustNotRest(t, make([]int64, n), repeat(8192, order))
		}
	}
}

// The filter of a pulse at each place is told behind it, as far as the sound goes.
func TestPulsesOfRest(t *testing.T) {
	for _, n := range []int{1, 2, 5, 31, 32, 33, 34, 80, 960} {
		for _, order := range []int{1, 2, 10, 16, 31, 32} {
			a := make([]int64, order)
			for k := range a {
				a[k] = int64(k*k*37%5000) - 2400
			}
			for at := range n {
				if n > 100 && at > 40 && at < n-40 && at%31 > 0 {
					continue
				}
				want := make([]int64, n)
				want[at] = 4096
				for k, v := range a[:min(order, n-1-at)] {
					want[at+1+k] = -v
				}
				mustRest(t, "a pulse", only(4096, at, n), a, want)
			}
		}
	}
}

// A number that is beyond is as the one at its edge: in the sound and in the filter, at each place.
func TestRestBeyond(t *testing.T) {
	edges := []int64{-32770, -32769, -32768, -32767, 32766, 32767, 32768, 32769, -1<<17 - 2, -1<<17 - 1, -1 << 17, -1<<17 + 1, 1<<17 - 1, 1 << 17, 1<<17 + 1, 1<<17 + 2}
	for _, v := range append(edges, far...) {
		for _, n := range []int{1, 2, 10, 32} {
			x := repeat(30000, n+3)
			for k := range n {
				a, b := repeat(-100, n), repeat(-100, n)
				a[k], b[k] = v, within17(v)
				mustRest(t, "a filter beyond", x, a, restApart(x, b))
				y, z := slices.Clone(x), slices.Clone(x)
				y[k], z[k] = v, within16(v)
				mustRest(t, "a sound beyond", y, repeat(3000, n), restApart(z, repeat(3000, n)))
			}
		}
	}
}

// The greatest that can be left: reckoned apart from the program.
func TestGreatestRest(t *testing.T) {
	for _, c := range []struct {
		x, a int64
		last int64
	}{
		{-32768, 1 << 17, 33521664}, {-32768, -1 << 17, -33587200}, {32767, 1 << 17, -33520641}, {32767, -1 << 17, 33586175},
		{math.MinInt64, math.MaxInt64, 33521664}, {math.MinInt64, math.MinInt64, -33587200}, {math.MaxInt64, math.MaxInt64, -33520641}, {math.MaxInt64, math.MinInt64, 33586175},
	} {
		x, a := repeat(c.x, 960), repeat(c.a, 32)
		l, e := levin.Rest(x, a)
		if e != api.OK || len(l) != 960 || l[0] != within16(c.x) || l[32] != c.last || l[959] != c.last {
			t.Errorf("P12.2: Rest of %d by %d: %d, %d", c.x, c.a, l, e)
		}
		mustRest(t, "all at the edge", x, a, restApart(x, a))
	}
}

// What a filter has made of some numbers is taken away from it again, to the last number.
func TestRestTakesAway(t *testing.T) {
	for seed := uint32(1); seed <= 40; seed++ {
		for _, a := range [][]int64{{3000}, {-3000}, {5000, -2500}, rows(10)[seed%16], rows(16)[seed%16], repeat(-100, 32), {0, 0, 0, 2000}} {
			drive := noise(seed, 400)
			x := driven(drive, a)
			if slices.Max(x) > 32767 || slices.Min(x) < -32768 {
				t.Fatalf("a sound that %d has made is too loud", a)
			}
			mustRest(t, "a sound that the filter has made", x, a, drive)
		}
	}
}

func mustPower(t *testing.T, what string, l []int64, want int64) {
	t.Helper()
	if p := levin.Power(l); p != want {
		t.Fatalf("P12.2: %s: Power of %d numbers: %d, want %d", what, len(l), p, want)
	}
	if p := powerApart(l); p != want {
		t.Fatalf("P12.2: %s is read in two ways: %d, want %d", what, p, want)
	}
}

func TestPower(t *testing.T) {
	mustPower(t, "none", nil, 0)
	mustPower(t, "none", []int64{}, 0)
	mustPower(t, "3 and -4", []int64{3, -4}, 25)
	mustPower(t, "1 to 4", []int64{1, -2, 3, -4}, 30)
	mustPower(t, "more than a sample has", []int64{-40000, 1}, 1600000001)
	for _, sign := range []int64{-1, 1} {
		mustPower(t, "just within", []int64{sign * (1<<20 - 1)}, 1<<40-1<<21+1)
		mustPower(t, "at the edge", []int64{sign << 20}, 1<<40)
		mustPower(t, "one beyond", []int64{sign * (1<<20 + 1)}, 1<<40)
		mustPower(t, "at the edge, of four", []int64{1, sign << 20, sign << 20, 2}, 1<<41+5)
		mustPower(t, "beyond, of four", []int64{1, sign << 21, sign << 40, 2}, 1<<41+5)
	}
	for _, v := range far {
		mustPower(t, "one that is far", []int64{v}, 1<<40)
		mustPower(t, "one that is far, and others", []int64{7, v, -7}, 1<<40+98)
		for _, n := range []int{960, 961, 5000} {
			mustPower(t, "many that are far", repeat(v, n), 960<<40)
		}
	}
	for n := range 2000 {
		mustPower(t, "fives", repeat(-5, n), 25*int64(min(n, 960)))
	}
	for _, n := range []int{1, 2, 959, 960, 961, 962, 1920, 1<<16 + 5} {
		for _, at := range []int{0, 1, 500, 958, 959, 960, 961, 1919, n - 1} {
			want := int64(0)
			if at < 960 {
				want = 10000
			}
			if at < n {
				mustPower(t, "one that is not 0", only(-100, at, n), want)
			}
		}
	}
}
