package levin_test

import (
	"slices"
	"testing"

	"madrigal/levin"
)

// filler stands in spare room.
const filler = 31

// guarded is a list with spare room behind it, which nobody may write to.
func guarded(l []int64) []int64 {
	return append(slices.Clip(slices.Clone(l)), repeat(filler, 1000)...)[:len(l)]
}

// untouched tells whether a guarded list and its spare room are as they were.
func untouched(l, was []int64) bool {
	return slices.Equal(l, was) && slices.Equal(l[len(l):cap(l)][:1000], repeat(filler, 1000))
}

// fill writes over a list and all its spare room.
func fill(l []int64, v int64) {
	l = l[:cap(l)]
	for i := range l {
		l[i] = v
	}
}

// given are lists that are taken by some calls and refused by others: short ones, long ones, quiet, loud, far beyond.
func given() [][]int64 {
	l := [][]int64{{}, {5}, {0, 3}, {-7, 100}, {100, 50}, {1, -1 << 50, 1 << 50}, far, repeat(3, 960), repeat(3, 961), repeat(-1<<30, 1200)}
	for _, n := range []int{2, 10, 16, 31, 32, 33, 34, 300, 960, 961} {
		l = append(l, noise(uint32(n), n), all(noise(uint32(n), n), func(v int64) int64 { return v << 32 }), sums(1<<40, n), sums(7, n))
	}
	return l
}

// What is handed in stays, spare room too, whether it is taken or refused.
func TestListsStay(t *testing.T) {
	filters := [][]int64{{}, {4096}, {-1 << 40, 1 << 40, 5}, repeat(1<<18, 32), repeat(100, 33)}
	for _, was := range given() {
		l := guarded(was)
		for _, order := range []int{-1, 0, 1, 10, 12, 16, 32, 33} {
			levin.Auto(l, order)
			levin.Best(l, order)
		}
		levin.Solve(l)
		levin.Power(l)
		for _, f := range filters {
			a := guarded(f)
			levin.Rest(l, a)
			levin.Rest(a, l)
			levin.Rest(l, l)
			if !untouched(a, f) {
				t.Fatalf("R4: the filter %d is changed", f)
			}
		}
		if !untouched(l, was) {
			t.Fatalf("R4: a list of %d numbers is changed", len(was))
		}
	}
}

// isNew writes over answers and over what was handed in, spare room too, and asks whether another one shows it.
func isNew(t *testing.T, what string, given []int64, call func([]int64) []int64) {
	t.Helper()
	l := guarded(given)
	first, second := call(l), call(l)
	was := slices.Clone(first)
	if len(was) == 0 {
		t.Fatalf("R4: %s answers nothing", what)
	}
	fill(first, 991)
	if !slices.Equal(second, was) {
		t.Errorf("R4: %s: an answer shares memory with the one ahead", what)
	}
	fill(second, 992)
	if slices.ContainsFunc(first[:cap(first)], func(v int64) bool { return v != 991 }) {
		t.Errorf("R4: %s: an answer shares spare room with the one behind", what)
	}
	if !untouched(l, given) {
		t.Errorf("R4: %s: what was handed in is changed, or shared", what)
	}
	third := call(l)
	if !slices.Equal(third, was) {
		t.Errorf("R4: %s: an answer shares memory with what is kept", what)
	}
	room := slices.Clone(third[:cap(third)])
	fill(l, 993)
	if !slices.Equal(third[:cap(third)], room) {
		t.Errorf("R4: %s: what was handed in is kept", what)
	}
}

func TestAnswersAreNew(t *testing.T) {
	for _, x := range [][]int64{{5}, {1, 2, 3}, noise(1, 32), noise(2, 33), noise(3, 960), repeat(1<<40, 500), make([]int64, 20)} {
		for _, order := range []int{1, 10, 32} {
			isNew(t, "Auto", x, func(l []int64) []int64 { r, _ := levin.Auto(l, order); return r })
		}
		for _, a := range [][]int64{nil, {0}, {4096}, repeat(-77, 32), {1 << 40}} {
			isNew(t, "Rest", x, func(l []int64) []int64 { r, _ := levin.Rest(l, a); return r })
		}
		a := repeat(90, min(len(x), 32))
		isNew(t, "Rest, of its filter", a, func(l []int64) []int64 { r, _ := levin.Rest(x, l); return r })
	}
	for _, r := range [][]int64{{0, 1}, {-5, 1, 2}, make([]int64, 33), {100, 50}, {100, 90, 80, 70}, sums(1<<29, 33), sums(1<<40, 20), sums(5, 11), {1, 1, 1, 1}, {1, -1 << 50, 1 << 50}} {
		isNew(t, "Solve", r, func(l []int64) []int64 { a, _ := levin.Solve(l); return a })
	}
}

// What stands behind a list, in its spare room, is no part of it.
func TestSpareRoomIsNoPart(t *testing.T) {
	for _, n := range []int{1, 2, 3, 10, 16, 31, 32, 33} {
		x := noise(uint32(40+n), n)
		g := append(slices.Clone(x), repeat(32767, 300)...)[:n]
		mustAuto(t, "with spare room", g, 32, autoApart(x, 32))
		mustPower(t, "with spare room", g, powerApart(x))
		a := noise(uint32(90+n), min(n, 32))
		b := append(slices.Clone(a), repeat(1<<17, 300)...)[:len(a)]
		mustRest(t, "with spare room", g, b, restApart(x, a))
		for _, order := range orders() {
			mustBest(t, "with spare room", g, order, firstLeast(powersApart(x, rows(order))))
		}
		if n > 1 {
			s := sums(1000, n)
			mustSolve(t, "with spare room", append(slices.Clone(s), repeat(-7, 50)...)[:n], solveApart(s).answer)
		}
	}
}

// One list may be handed in as two: a sound that is its own filter.
func TestOneListTwice(t *testing.T) {
	for n := range 33 {
		x := all(noise(uint32(n), n), func(v int64) int64 { return 70 * v })
		mustRest(t, "a sound by itself", x, x, restApart(x, x))
	}
}
