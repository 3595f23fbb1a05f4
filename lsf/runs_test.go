package lsf_test

import (
	"math"
	"math/rand/v2"
	"slices"
	"testing"

	"madrigal/lsf"
	"madrigal/tabs"
)

// drawnTwo is n numbers of Two, some of them runs of one number, some of the ends alone.
func drawnTwo(r *rand.Rand, n int) []int {
	l := make([]int, n)
	kind := r.IntN(4)
	for k := range l {
		switch {
		case kind == 0 && k > 0 && r.IntN(4) > 0:
			l[k] = l[k-1]
		case kind == 1:
			l[k] = 8*r.IntN(2) - 4
		case kind == 2:
			l[k] = r.IntN(3) - 1
		default:
			l[k] = r.IntN(9) - 4
		}
	}
	return l
}

// drawnFrequency is one near 0, near 32768, anywhere between, outside, or any number.
func drawnFrequency(r *rand.Rand) int64 {
	switch r.IntN(8) {
	case 0:
		return r.Int64N(700) - 100
	case 1:
		return 32768 - r.Int64N(700) + 100
	case 2:
		return r.Int64N(200000) - 80000
	case 3:
		return int64(r.Uint64())
	case 4:
		return farFrequencies[r.IntN(len(farFrequencies))]
	}
	return r.Int64N(32769)
}

// drawnList is n frequencies: of those that rise each is near the next by what is asked of them.
func drawnList(r *rand.Rand, n int) []int64 {
	l := make([]int64, n)
	kind := r.IntN(4)
	for k := range l {
		switch {
		case kind == 0 && k > 0:
			l[k] = l[k-1] + 245 + r.Int64N(12)
		case kind == 1 && k > 0:
			l[k] = l[k-1] + r.Int64N(65536/int64(n)) - 40
		case kind < 3:
			l[k] = r.Int64N(33000)
		default:
			l[k] = drawnFrequency(r)
		}
	}
	if r.IntN(3) == 0 {
		slices.Sort(l)
	}
	return l
}

// drawnWant is frequencies that are wanted: about those that can be told, or any.
func drawnWant(r *rand.Rand, order int) []int64 {
	switch r.IntN(4) {
	case 0:
		return drawnList(r, order)
	case 1:
		return decoded(order, lsf.Index{One: r.IntN(16), Two: drawnTwo(r, order)})
	}
	l := tabs.Lsf(order, r.IntN(16))
	wide := 1 + r.Int64N(2000)
	for k := range l {
		l[k] += r.Int64N(2*wide+1) - wide
	}
	return l
}

func TestRunsOfDecode(t *testing.T) {
	r := rand.New(rand.NewPCG(6, 1))
	for _, order := range []int{10, 16} {
		pressed := 0
		for range 30000 {
			x := lsf.Index{One: r.IntN(16), Two: drawnTwo(r, order)}
			want := decoded(order, x)
			mustDecode(t, order, x, want)
			if !slices.Equal(raw(order, x), want) {
				pressed++
			}
		}
		if pressed < 1000 {
			t.Errorf("P6.1: only %d of order %d were made steady", pressed, order)
		}
	}
}

// Two Indexes in turn: what one call was told is forgotten at the next one.
func TestDecodeForgets(t *testing.T) {
	r := rand.New(rand.NewPCG(6, 2))
	x := lsf.Index{Two: make([]int, 16)}
	for range 2000 {
		x.One = r.IntN(16)
		x.Two[r.IntN(16)] = r.IntN(9) - 4
		mustDecode(t, 16, x, decoded(16, x))
		y := lsf.Index{One: x.One, Two: x.Two[:10]}
		mustDecode(t, 10, y, decoded(10, y))
	}
}

func TestRunsOfSteady(t *testing.T) {
	r := rand.New(rand.NewPCG(6, 3))
	for range 30000 {
		l := drawnList(r, 1+r.IntN(66))
		want := steadied(l)
		mustSteady(t, l, want)
		if len(want) > 0 {
			mustSteady(t, want, want)
		}
	}
}

func TestRunsOfBetween(t *testing.T) {
	r := rand.New(rand.NewPCG(6, 4))
	for range 30000 {
		n := 1 + r.IntN(66)
		a, b, w := drawnList(r, n), drawnList(r, n), r.IntN(7)-1
		if n > 64 || w < 0 || w > 4 {
			mustNotGo(t, a, b, w)
		} else {
			mustGo(t, a, b, w, between(a, b, w))
		}
	}
}

func TestRunsOfSearch(t *testing.T) {
	r := rand.New(rand.NewPCG(6, 5))
	for _, order := range []int{10, 16} {
		found := map[int]int{}
		for range 20000 {
			want := drawnWant(r, order)
			x := sought(order, want)
			mustSearch(t, order, want, x)
			found[x.One]++
		}
		if len(found) != 16 {
			t.Errorf("P6.2: only %d Ones of order %d were found", len(found), order)
		}
	}
}

// guarded is a list with spare room behind it, in which a call must write as little as in the list.
func guarded[N int | int64](l []N) []N { return append(slices.Clip(l), repeat(N(77), 80)...)[:len(l)] }

// untouched tells whether a guarded list and its spare room are as they were.
func untouched[N int | int64](l, was []N) bool {
	for _, v := range l[len(l):cap(l)][:80] {
		if v != 77 {
			return false
		}
	}
	return slices.Equal(l, was)
}

// fill writes over a list and all its spare room.
func fill[N int | int64](l []N, v N) {
	l = l[:cap(l)]
	for i := range l {
		l[i] = v
	}
}

// isNew holds three answers of one call against each other, with all of the first two written over, spare room too; what was handed in must stay.
func isNew[N int | int64](t *testing.T, what string, call func() []N, stays func() bool) {
	t.Helper()
	first, second := call(), call()
	was := slices.Clone(first)
	if len(was) == 0 {
		t.Errorf("R4: %s answers nothing", what)
	}
	fill(first, 991)
	if !slices.Equal(second, was) {
		t.Errorf("R4: %s: an answer shares memory with the one ahead", what)
	}
	fill(second, 992)
	if slices.ContainsFunc(first[:cap(first)], func(v N) bool { return v != 991 }) {
		t.Errorf("R4: %s: an answer shares spare room with the one behind", what)
	}
	if !stays() {
		t.Errorf("R4: %s: what was handed in is changed, or shared", what)
	}
	if !slices.Equal(call(), was) {
		t.Errorf("R4: %s: an answer shares memory with what is kept", what)
	}
}

// notKept tells a change of what was handed in: the answer must stay.
func notKept[N, M int | int64](t *testing.T, what string, answer []N, handed ...[]M) {
	t.Helper()
	was := slices.Clone(answer[:cap(answer)])
	for _, l := range handed {
		fill(l, 993)
	}
	if !slices.Equal(answer[:cap(answer)], was) {
		t.Errorf("R4: %s: what was handed in is kept", what)
	}
}

func TestDecodeLeavesItsIndex(t *testing.T) {
	for order := range units() {
		for _, v := range []int{0, 3, -4} {
			two := repeat(v, order)
			x := lsf.Index{One: 5, Two: guarded(two)}
			call := func() []int64 { l, _ := lsf.Decode(order, x); return l }
			isNew(t, "Decode", call, func() bool { return untouched(x.Two, two) && lsf.Good(order, x) && untouched(x.Two, two) })
			notKept(t, "Decode", call(), x.Two)
		}
	}
	wrong := repeat(5, 10)
	x := lsf.Index{Two: guarded(wrong)}
	mustNotDecode(t, 10, x)
	if !untouched(x.Two, wrong) {
		t.Errorf("R4: a refused Decode changes its index")
	}
}

func TestSteadyLeavesItsList(t *testing.T) {
	for _, was := range [][]int64{{300}, {5, 6}, {math.MinInt64, 40000, 3}, rising(400, 300, 64), repeat(int64(32768), 64)} {
		l := guarded(was)
		call := func() []int64 { return lsf.Steady(l) }
		isNew(t, "Steady", call, func() bool { return untouched(l, was) })
		notKept(t, "Steady", call(), l)
	}
	was := rising(5, 1, 65)
	l := guarded(was)
	if mustSteady(t, l, nil); !untouched(l, was) {
		t.Errorf("R4: Steady changes a list that is too long")
	}
}

func TestBetweenLeavesItsLists(t *testing.T) {
	outside, within := []int64{100, -5, 300, 99999}, []int64{200, 32768, 0, 400}
	for w := range 5 {
		for _, c := range [][2][]int64{{outside, within}, {within, outside}, {within, rising(300, 250, 4)}, {within, within}} {
			a, b := guarded(c[0]), guarded(c[1])
			call := func() []int64 { l, _ := lsf.Between(a, b, w); return l }
			isNew(t, "Between", call, func() bool { return untouched(a, c[0]) && untouched(b, c[1]) })
			one := func() []int64 { l, _ := lsf.Between(a, a, w); return l }
			isNew(t, "Between of one list", one, func() bool { return untouched(a, c[0]) })
			notKept(t, "Between", call(), a, b)
		}
		whole := []int64{1, 20, 300, 4000, 32000}
		mustGo(t, whole[:4], whole[1:], w, between(whole[:4], whole[1:], w))
		mustGo(t, whole[1:], whole[:4], w, between(whole[1:], whole[:4], w))
		if !slices.Equal(whole, []int64{1, 20, 300, 4000, 32000}) {
			t.Errorf("R4: Between changes lists that share memory: %d", whole)
		}
	}
	a, b := guarded(outside), guarded(within)
	mustNotGo(t, a, b, 5)
	mustNotGo(t, a, b[:3], 2)
	if !untouched(a, outside) || !untouched(b, within) {
		t.Errorf("R4: a refused Between changes its lists")
	}
}

func TestSearchLeavesItsList(t *testing.T) {
	for order := range units() {
		for _, was := range [][]int64{rising(-900, 3001, order), rising(1500, 1800, order), tabs.Lsf(order, 9)} {
			l := guarded(was)
			call := func() []int { x, _ := lsf.Search(order, l); return x.Two }
			isNew(t, "Search", call, func() bool { return untouched(l, was) })
			x, _ := lsf.Search(order, l)
			frequencies, _ := lsf.Decode(order, x)
			notKept(t, "Search", x.Two, l)
			mustDecode(t, order, x, frequencies)
		}
	}
	was := rising(-900, 3001, 12)
	l := guarded(was)
	mustNotSearch(t, 10, l)
	mustNotSearch(t, 12, l)
	if !untouched(l, was) {
		t.Errorf("R4: a refused Search changes its list")
	}
}

// The tables that the answers are made of are another package's: nothing here may reach them.
func TestTablesStay(t *testing.T) {
	for order := range units() {
		for one := range 16 {
			was := tabs.Lsf(order, one)
			l, _ := lsf.Decode(order, lsf.Index{One: one, Two: make([]int, order)})
			fill(l, 991)
			if !slices.Equal(tabs.Lsf(order, one), was) {
				t.Errorf("R4: an answer of Decode shares memory with a table")
			}
		}
	}
}
