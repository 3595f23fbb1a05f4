package tabs_test

import (
	"encoding/binary"
	"hash/fnv"
	"math"
	"slices"
	"testing"

	"madrigal/api"
	"madrigal/tabs"
)

// tables are those of the chapter, by their numbers.
func tables() [][]int {
	return [][]int{
		{192, 96, 0},
		{224, 192, 160, 128, 96, 64, 32, 0},
		{252, 247, 240, 230, 214, 190, 150, 106, 66, 42, 26, 16, 10, 6, 4, 2, 0},
		{240, 224, 208, 192, 176, 160, 144, 128, 112, 96, 80, 64, 48, 32, 16, 0},
		{253, 244, 222, 170, 86, 34, 12, 3, 0},
		{218, 180, 148, 122, 100, 82, 67, 54, 43, 34, 26, 19, 14, 10, 6, 3, 0},
		{205, 163, 128, 97, 70, 44, 20, 0},
		{231, 155, 38, 0},
		{192, 128, 64, 0},
	}
}

// edges are those of the greatest rate: the others have the first of them.
func edges() []int {
	return []int{0, 1, 2, 3, 4, 5, 6, 7, 8, 10, 12, 14, 16, 20, 24, 28, 34, 40, 48, 60}
}

// edgeCounts tells how many of them a rate has.
func edgeCounts() map[int]int { return map[int]int{8000: 14, 16000: 18, 24000: 20} }

// rates are the three, their neighbours, those of other layers, and what is far off.
func rates() []int {
	return []int{
		math.MinInt, -24000, -8000, -1, 0, 1, 10, 16, 7999, 8000, 8001, 12000, 15999, 16000, 16001,
		23999, 24000, 24001, 32000, 48000, 8000 + 1<<32, math.MaxInt,
	}
}

// indexes lie about those of a table of n, and far off.
func indexes(n int) []int {
	l := []int{math.MinInt, math.MinInt + 1, -256, -2, math.MaxInt - 1, math.MaxInt}
	for i := -1; i <= n+1; i++ {
		l = append(l, i)
	}
	return l
}

// falling is the table of n numbers from n - 1 down to 0.
func falling(n int) []int {
	l := make([]int, n)
	for i := range l {
		l[i] = n - 1 - i
	}
	return l
}

func TestExamples(t *testing.T) {
	if l := tabs.Icdf(0); !slices.Equal(l, []int{192, 96, 0}) {
		t.Errorf("Icdf(0): %d", l)
	}
	if n := len(tabs.Edges(8000)); n != 14 {
		t.Errorf("Edges(8000): %d numbers", n)
	}
	if from, to := tabs.Bins(8000, 10, 9); from != 40 || to != 48 {
		t.Errorf("Bins(8000, 10, 9): %d, %d", from, to)
	}
	if n := tabs.Order(16000); n != 16 {
		t.Errorf("Order(16000): %d", n)
	}
}

func TestIcdf(t *testing.T) {
	want := tables()
	for _, k := range indexes(len(want)) {
		l := tabs.Icdf(k)
		if k < 0 || k >= len(want) {
			if len(l) != 0 {
				t.Errorf("P2.1: Icdf(%d): %d, want nothing", k, l)
			}
			continue
		}
		if !slices.Equal(l, want[k]) {
			t.Errorf("P2.1: Icdf(%d): %d, want %d", k, l, want[k])
		}
		if !tabs.Good(l) {
			t.Errorf("P2.1: Icdf(%d) is not Good", k)
		}
	}
}

func TestGood(t *testing.T) {
	for _, c := range []struct {
		of   string
		t    []int
		want bool
	}{
		{"nil", nil, false},
		{"nothing", []int{}, false},
		{"a nought alone", []int{0}, true},
		{"a one alone", []int{1}, false},
		{"a number below 0 alone", []int{-1}, false},
		{"256 alone", []int{256}, false},
		{"the least table of two", []int{1, 0}, true},
		{"a first of 255", []int{255, 0}, true},
		{"a first of 256", []int{256, 0}, false},
		{"a first of 257", []int{257, 0}, false},
		{"a first far off", []int{math.MaxInt, 0}, false},
		{"a first of 256 ahead of a good rest", []int{256, 255, 7, 0}, false},
		{"steps of one", []int{255, 254, 1, 0}, true},
		{"a last one", []int{5, 3, 1}, false},
		{"a last one below 0", []int{5, 3, -1}, false},
		{"a nought and one below", []int{5, 0, -1}, false},
		{"equal neighbours ahead", []int{5, 5, 0}, false},
		{"equal neighbours in the middle", []int{9, 5, 5, 3, 0}, false},
		{"equal noughts", []int{5, 0, 0}, false},
		{"noughts alone", []int{0, 0}, false},
		{"one that rises ahead", []int{5, 6, 0}, false},
		{"one that rises in the middle", []int{9, 3, 4, 0}, false},
		{"one below 0 in the middle", []int{5, -1, 0}, false},
		{"one far below 0 in the middle", []int{5, math.MinInt, 0}, false},
		{"one that falls and is past 255", []int{300, 200, 0}, false},
		{"255 numbers", falling(255), true},
		{"256 numbers", falling(256), true},
		{"257 numbers", falling(257), false},
		{"257 numbers from 255 on, the last one twice", append(falling(256), 0), false},
		{"257 noughts", make([]int, 257), false},
		{"256 noughts", make([]int, 256), false},
		{"256 numbers less the last one", falling(256)[:255], false},
		{"256 numbers less the first one", falling(256)[1:], true},
		{"65536 numbers", falling(65536), false},
	} {
		if v := tabs.Good(c.t); v != c.want {
			t.Errorf("P2.1: Good of %s: %t", c.of, v)
		}
	}
}

func TestGoodLooksAtEachNumber(t *testing.T) {
	for i := range 255 {
		l := falling(256)
		l[i+1] = l[i]
		if tabs.Good(l) {
			t.Errorf("P2.1: Good, though the number %d is the one ahead", i+1)
		}
	}
}

func TestGoodLeavesItsTable(t *testing.T) {
	whole := []int{9, 4, 0, 77, 78}
	was := slices.Clone(whole)
	if !tabs.Good(whole[:3]) || tabs.Good(whole[:4]) {
		t.Errorf("P2.1: Good of a piece")
	}
	if !slices.Equal(whole, was) {
		t.Errorf("R4: Good made its table %d", whole)
	}
}

func TestRate(t *testing.T) {
	for _, rate := range rates() {
		if v, want := tabs.Rate(rate), edgeCounts()[rate] > 0; v != want {
			t.Errorf("P2.2: Rate(%d): %t", rate, v)
		}
	}
	if !tabs.Rate(api.Narrow) || !tabs.Rate(api.Wide) || !tabs.Rate(api.Full) {
		t.Errorf("P2.2: Rate of api's rates")
	}
}

func TestEdges(t *testing.T) {
	for _, rate := range rates() {
		if l, want := tabs.Edges(rate), edges()[:edgeCounts()[rate]]; !slices.Equal(l, want) {
			t.Errorf("P2.2: Edges(%d): %d, want %d", rate, l, want)
		}
	}
}

func TestOrder(t *testing.T) {
	want := map[int]int{8000: 10, 16000: 16}
	for _, rate := range rates() {
		if v := tabs.Order(rate); v != want[rate] {
			t.Errorf("P2.2: Order(%d): %d, want %d", rate, v, want[rate])
		}
	}
}

func TestBins(t *testing.T) {
	for _, c := range [][5]int{
		{8000, 10, 0, 0, 4}, {8000, 10, 7, 28, 32}, {8000, 10, 8, 32, 40}, {8000, 10, 12, 64, 80}, {8000, 10, 13, 0, 0},
		{8000, 20, 0, 0, 8}, {8000, 20, 9, 80, 96}, {8000, 20, 12, 128, 160}, {8000, 20, 13, 0, 0},
		{16000, 10, 13, 80, 96}, {16000, 10, 16, 136, 160}, {16000, 10, 17, 0, 0}, {16000, 20, 16, 272, 320}, {16000, 20, 17, 0, 0},
		{24000, 10, 17, 160, 192}, {24000, 10, 18, 192, 240}, {24000, 10, 19, 0, 0}, {24000, 20, 18, 384, 480}, {24000, 20, 19, 0, 0},
	} {
		if from, to := tabs.Bins(c[0], c[1], c[2]); from != c[3] || to != c[4] {
			t.Errorf("P2.2: Bins(%d, %d, %d): %d, %d, want %d, %d", c[0], c[1], c[2], from, to, c[3], c[4])
		}
	}
}

func TestAllBins(t *testing.T) {
	wide := map[int]int{10: 4, 20: 8}
	for _, rate := range rates() {
		for _, ms := range []int{math.MinInt, -20, -10, -1, 0, 1, 4, 5, 8, 9, 10, 11, 15, 19, 20, 21, 30, 40, 60, math.MaxInt} {
			for _, band := range indexes(21) {
				from, to := tabs.Bins(rate, ms, band)
				wantFrom, wantTo := 0, 0
				if band >= 0 && band < edgeCounts()[rate]-1 {
					wantFrom, wantTo = wide[ms]*edges()[band], wide[ms]*edges()[band+1]
				}
				if from != wantFrom || to != wantTo {
					t.Errorf("P2.2: Bins(%d, %d, %d): %d, %d, want %d, %d", rate, ms, band, from, to, wantFrom, wantTo)
				}
			}
		}
	}
}

func TestBandsReachHalfTheRate(t *testing.T) {
	for rate, n := range edgeCounts() {
		for _, ms := range []int{10, 20} {
			if _, to := tabs.Bins(rate, ms, n-2); to != rate*ms/1000 {
				t.Errorf("P2.2: the last band of %d, %d ends at %d", rate, ms, to)
			}
		}
	}
}

func TestWindow(t *testing.T) {
	for _, want := range [][]int64{
		{23170},
		{7473, 31905},
		{3443, 23170, 32587},
		{1959, 15272, 28993, 32709},
		{1259, 10425, 23170, 31067, 32744},
		{82, 713, 1959, 3783, 6128, 8912, 12004, 15272, 18559, 21699, 24556, 27008, 28993, 30491, 31534, 32190, 32549, 32709, 32760, 32768},
	} {
		if w := tabs.Window(len(want)); !slices.Equal(w, want) {
			t.Errorf("P2.3: Window(%d): %d, want %d", len(want), w, want)
		}
	}
	w := tabs.Window(480)
	if len(w) != 480 || !slices.Equal(w[:6], []int64{0, 3, 3, 6, 13, 19}) || w[239] != 23113 || w[240] != 23230 || w[479] != 32768 {
		t.Errorf("P2.3: Window(480): %d", w)
	}
	for _, l := range []int{math.MinInt, -480, -2, -1, 0, 481, 482, 960, 1 << 32, 1<<32 + 1, math.MaxInt} {
		if w := tabs.Window(l); len(w) != 0 {
			t.Errorf("P2.3: Window(%d): %d numbers", l, len(w))
		}
	}
}

func TestAllWindows(t *testing.T) {
	var all []int64
	for l := 1; l <= 480; l++ {
		w := tabs.Window(l)
		if len(w) != l {
			t.Fatalf("P2.3: Window(%d): %d numbers", l, len(w))
		}
		for i, v := range w {
			s := math.Sin(math.Pi / 2 * (float64(i) + 0.5) / float64(l))
			if near := 32768 * math.Sin(math.Pi/2*s*s); math.Abs(float64(v)-near) > 7 {
				t.Errorf("P2.3: Window(%d) at %d: %d, but it is near %g", l, i, v, near)
			}
		}
		all = append(all, w...)
	}
	same(t, "P2.3: all windows", all, 966416166353633503)
}

func TestLsf(t *testing.T) {
	for _, c := range []struct {
		order, i int
		want     []int64
	}{
		{10, 0, []int64{2210, 6461, 9176, 11891, 14606, 17321, 21572, 24287, 27002, 29717}},
		{10, 7, []int64{2282, 6533, 9248, 11963, 14678, 17393, 20108, 24359, 27074, 29789}},
		{10, 15, []int64{3242, 5957, 8672, 11387, 15638, 18353, 21068, 23783, 26498, 29213}},
		{16, 0, []int64{1479, 4149, 5922, 7696, 9469, 11243, 13912, 15686, 17459, 19233, 21006, 22780, 25449, 27223, 28996, 30770}},
		{16, 7, []int64{1521, 4191, 5964, 7738, 9511, 11285, 13058, 15728, 17501, 19275, 21048, 22822, 25491, 27265, 29038, 30812}},
		{16, 15, []int64{2081, 3855, 5628, 7402, 10071, 11845, 13618, 15392, 17165, 18939, 21608, 23382, 25155, 26929, 28702, 30476}},
	} {
		if l := tabs.Lsf(c.order, c.i); !slices.Equal(l, c.want) {
			t.Errorf("P2.3: Lsf(%d, %d): %d, want %d", c.order, c.i, l, c.want)
		}
	}
}

func TestAllLsf(t *testing.T) {
	checksums := map[int]uint64{10: 16372695557055786852, 16: 3572457228301236221}
	for _, order := range []int{math.MinInt, -16, -10, -1, 0, 1, 9, 10, 11, 12, 15, 16, 17, 20, 8000, 16000, math.MaxInt} {
		var all []int64
		for _, i := range indexes(16) {
			l := tabs.Lsf(order, i)
			if n := len(l); n != 0 && n != order || (n != 0) != (checksums[order] != 0 && i >= 0 && i < 16) {
				t.Errorf("P2.3: Lsf(%d, %d): %d", order, i, l)
			}
			all = append(all, l...)
		}
		if want := checksums[order]; want != 0 {
			same(t, "P2.3: all frequencies of an order", all, want)
		}
	}
}

func TestTaps(t *testing.T) {
	want := [][5]int64{
		{13, 22, 39, 23, 12}, {-1, 36, 64, 27, -6}, {4, 6, 24, 7, 5}, {-2, 6, 118, 7, -3},
		{2, 10, 70, 15, 0}, {-9, 30, 80, 34, -10}, {0, 0, 96, 0, 0}, {5, 29, 50, 29, 5},
	}
	if n := tabs.Filters(); n != len(want) {
		t.Errorf("P2.3: Filters(): %d, want %d", n, len(want))
	}
	for _, i := range indexes(len(want)) {
		taps := [5]int64{}
		if i >= 0 && i < len(want) {
			taps = want[i]
		}
		if v := tabs.Taps(i); v != taps {
			t.Errorf("P2.3: Taps(%d): %d, want %d", i, v, taps)
		}
	}
}

func TestAnswersAreNew(t *testing.T) {
	for k := range tables() {
		isNew(t, "Icdf", func() []int { return tabs.Icdf(k) })
	}
	for rate := range edgeCounts() {
		isNew(t, "Edges", func() []int { return tabs.Edges(rate) })
	}
	for _, l := range []int{1, 20, 480} {
		isNew(t, "Window", func() []int64 { return tabs.Window(l) })
	}
	for _, order := range []int{10, 16} {
		for i := range 16 {
			isNew(t, "Lsf", func() []int64 { return tabs.Lsf(order, i) })
		}
	}
	if from, to := tabs.Bins(8000, 10, 9); from != 40 || to != 48 {
		t.Errorf("P2: Bins tells %d, %d when the edges told are written over", from, to)
	}
}

// isNew holds three answers against each other, with all of the first two written over, spare room too.
func isNew[N int | int64](t *testing.T, what string, call func() []N) {
	t.Helper()
	first, second := call(), call()
	was := slices.Clone(first)
	if len(was) == 0 {
		t.Errorf("P2: %s tells nothing", what)
	}
	fill(first, -999)
	if !slices.Equal(second, was) {
		t.Errorf("P2: %s: an answer shares memory with the one ahead", what)
	}
	fill(second, -998)
	if slices.ContainsFunc(first[:cap(first)], func(v N) bool { return v != -999 }) {
		t.Errorf("P2: %s: an answer shares spare room with the one behind", what)
	}
	if !slices.Equal(call(), was) {
		t.Errorf("P2: %s: an answer shares memory with what is kept", what)
	}
}

func fill[N int | int64](l []N, v N) {
	l = l[:cap(l)]
	for i := range l {
		l[i] = v
	}
}

// same holds a list against the checksum of the one that the chapter's steps give.
func same(t *testing.T, what string, l []int64, want uint64) {
	t.Helper()
	h := fnv.New64a()
	var b [8]byte
	for _, a := range l {
		binary.LittleEndian.PutUint64(b[:], uint64(a))
		h.Write(b[:])
	}
	if v := h.Sum64(); v != want {
		t.Errorf("%s: checksum %d, want %d", what, v, want)
	}
}
