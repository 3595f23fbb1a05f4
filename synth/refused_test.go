package synth_test

import (
	"math"
	"slices"
	"strconv"
	"testing"

	"madrigal/api"
	"madrigal/synth"
)

// far are numbers far from all that may be, and next to what wraps round.
var far = []int64{
	math.MinInt64, math.MinInt64 + 1, -1 << 62, -1<<32 - 1, -1 << 32, -1<<31 - 1, -1 << 31, -1 << 19,
	1 << 19, 1 << 31, 1<<31 + 1, 1 << 32, 1<<32 + 1, 1<<32 + 3, 1 << 62, math.MaxInt64 - 1, math.MaxInt64,
}

// edge is a part at an edge of what may be.
type edge struct {
	what string
	p    synth.Part
	good bool
}

// bases are good parts, of which one thing at a time is changed.
func bases() []synth.Part {
	l := []synth.Part{
		{Pulses: []int64{5}, Loud: 1000},
		{Pulses: slices.Repeat([]int64{1, -2, 0}, 7), Loud: 3000, Lag: 40, Taps: [5]int64{13, 22, 39, 23, 12}, Filter: []int64{5000, -2100, 300}},
		{Pulses: slices.Repeat([]int64{0, 16, 0, -16}, 120), Loud: 1 << 18, Lag: 318, Taps: [5]int64{-128, 128, -128, 128, -128}, Filter: make([]int64, 32)},
	}
	for k := range l[2].Filter {
		l[2].Filter[k] = int64(k*k*37%2000) - 1000
	}
	return l
}

// edgesOf changes base at every edge.
func edgesOf(base synth.Part) []edge {
	var l []edge
	add := func(what string, v int64, good bool, change func(p *synth.Part)) {
		p := base
		p.Pulses, p.Filter = slices.Clone(p.Pulses), slices.Clone(p.Filter)
		change(&p)
		l = append(l, edge{what + " " + strconv.FormatInt(v, 10), p, good})
	}
	for _, n := range []int{0, 1, 2, 79, 479, 480, 481, 482, 960, 1 << 17} {
		add("pulses:", int64(n), n >= 1 && n <= 480, func(p *synth.Part) { p.Pulses = make([]int64, n) })
	}
	add("nil pulses:", 0, false, func(p *synth.Part) { p.Pulses = nil })
	for _, k := range []int{0, len(base.Pulses) / 2, len(base.Pulses) - 1} {
		numbers(16, func(v int64, good bool) {
			add("pulse "+strconv.Itoa(k)+":", v, good, func(p *synth.Part) { p.Pulses[k] = v })
		})
	}
	for _, v := range []int64{-1, 0, 1, 1<<18 - 1, 1 << 18, 1<<18 + 1} {
		add("loud:", v, v >= 0 && v <= 1<<18, func(p *synth.Part) { p.Loud = v })
	}
	for _, v := range []int64{-318, -4, -3, -2, -1, 0, 1, 2, 3, 4, 317, 318, 319, 320, 480} {
		add("lag:", v, v == 0 || v >= 3 && v <= 318, func(p *synth.Part) { p.Lag = int(v) })
	}
	for _, v := range far {
		add("loud:", v, false, func(p *synth.Part) { p.Loud = v })
		add("lag:", v, false, func(p *synth.Part) { p.Lag = int(v) })
	}
	for j := range 5 {
		numbers(128, func(v int64, good bool) {
			add("tap "+strconv.Itoa(j)+":", v, good, func(p *synth.Part) { p.Taps[j] = v })
			add("without lag, tap "+strconv.Itoa(j)+":", v, good, func(p *synth.Part) { p.Lag, p.Taps[j] = 0, v })
		})
	}
	for _, n := range []int{0, 1, 31, 32, 33, 34, 64, 1 << 17} {
		add("numbers of the filter:", int64(n), n <= 32, func(p *synth.Part) { p.Filter = make([]int64, n) })
	}
	add("nil filter:", 0, true, func(p *synth.Part) { p.Filter = nil })
	for _, n := range []int{1, 31, 32} {
		for k := range n {
			numbers(1<<17, func(v int64, good bool) {
				add("of "+strconv.Itoa(n)+" number "+strconv.Itoa(k)+":", v, good, func(p *synth.Part) { p.Filter = only(v, k, n) })
			})
		}
	}
	add("all at the edge:", 0, true, func(p *synth.Part) {
		*p = synth.Part{Pulses: repeat(-16, 480), Loud: 1 << 18, Lag: 318, Taps: [5]int64{128, 128, 128, 128, 128}, Filter: repeat(-1<<17, 32)}
	})
	add("all wrong:", 0, false, func(p *synth.Part) {
		*p = synth.Part{Pulses: repeat(-17, 481), Loud: -1, Lag: 319, Taps: [5]int64{129, 129, 129, 129, 129}, Filter: repeat(1<<18, 33)}
	})
	return l
}

// numbers are those about a bound on both sides, and the far ones.
func numbers(most int64, f func(v int64, good bool)) {
	for _, v := range []int64{-most + 1, -most, 0, most - 1, most} {
		f(v, true)
	}
	for _, v := range append([]int64{-most - 1, most + 1}, far...) {
		f(v, false)
	}
}

func mustRefuse(t *testing.T, what string, v *synth.Voice, p synth.Part) {
	t.Helper()
	was := v.Copy()
	if l, e := v.Run(p); e != api.EARG || l != nil {
		t.Fatalf("P10.1: %s: %d samples, %d, want EARG", what, len(l), e)
	}
	if !v.Same(was) || !was.Same(v) {
		t.Fatalf("P10.1: %s: what is refused changes the voice", what)
	}
}

// Each edge, run by a silent voice and by one that has run: and what they answer next is as if what was refused had not been asked for.
func TestEdges(t *testing.T) {
	next := synth.Part{Pulses: []int64{2, 0, 0, 0, -1, 0}, Loud: 500, Lag: 318, Taps: [5]int64{9, 30, 60, 30, 9}, Filter: slices.Repeat([]int64{700, -650}, 16)}
	for _, base := range bases() {
		for _, c := range edgesOf(base) {
			if good := synth.Good(c.p); good != c.good || goodApart(c.p) != c.good {
				t.Fatalf("P10.1: %s: Good %t, want %t", c.what, good, c.good)
			}
			for _, ahead := range [][]synth.Part{nil, {base}, {base, next, base, base}} {
				v, h := synth.New(), &history{}
				for _, p := range ahead {
					mustRun(t, v, p, h.run(p))
				}
				if c.good {
					mustRun(t, v, c.p, h.run(c.p))
				} else {
					mustRefuse(t, c.what, v, c.p)
				}
				mustRun(t, v, next, h.run(next))
				mustRun(t, v, base, h.run(base))
			}
		}
	}
}

// guarded is a list with spare room behind it, which nobody may write to.
func guarded(l []int64) []int64 {
	return append(slices.Clip(slices.Clone(l)), repeat(77, 400)...)[:len(l)]
}

// untouched tells whether a guarded list and its spare room are as they were.
func untouched(l, was []int64) bool {
	return slices.Equal(l, was) && slices.Equal(l[len(l):cap(l)][:400], repeat(77, 400))
}

// fill writes over a list and all its spare room.
func fill(l []int64, v int64) {
	l = l[:cap(l)]
	for i := range l {
		l[i] = v
	}
}

func TestListsThatAreHandedInStay(t *testing.T) {
	for _, base := range bases() {
		for _, c := range edgesOf(base) {
			p := c.p
			p.Pulses, p.Filter = guarded(p.Pulses), guarded(p.Filter)
			v := synth.New()
			synth.Good(p)
			v.Run(p)
			v.Run(p)
			synth.Pcm(p.Pulses)
			if !untouched(p.Pulses, c.p.Pulses) || !untouched(p.Filter, c.p.Filter) {
				t.Fatalf("R4: %s: a list that was handed in is changed", c.what)
			}
		}
	}
}

// The lists of a part may be written over as soon as it has run: pulses and filter may be one list, too.
func TestListsThatAreHandedInAreNotKept(t *testing.T) {
	for _, base := range bases() {
		v, h := synth.New(), &history{}
		for range 5 {
			p := base
			p.Pulses, p.Filter = slices.Clone(p.Pulses), slices.Clone(p.Filter)
			mustRun(t, v, p, h.run(p))
			fill(p.Pulses, 99)
			fill(p.Filter, 99)
			one := []int64{3, -2, 16, 0, 1}
			p.Pulses, p.Filter = one, one[1:]
			mustRun(t, v, p, h.run(p))
			fill(one, 99)
		}
	}
}

// What a run answered stays as it is; and when it is written over, spare room too, nothing else changes.
func TestAnswersAreNew(t *testing.T) {
	for _, base := range bases() {
		v, h := synth.New(), &history{}
		var answers, wants [][]int64
		for n := range 12 {
			p := base
			if n%3 == 1 {
				p.Pulses = []int64{0}
			}
			l, _ := v.Run(p)
			answers, wants = append(answers, l), append(wants, h.run(p))
		}
		v.Copy().Run(base)
		v.Reset()
		for n, l := range answers {
			if !slices.Equal(l, wants[n]) {
				t.Fatalf("R4: what run %d answered has changed", n)
			}
			fill(l, int64(n))
		}
		for n, l := range answers {
			if slices.ContainsFunc(l[:cap(l)], func(x int64) bool { return x != int64(n) }) {
				t.Fatalf("R4: two answers share memory")
			}
		}
	}
	v, h := synth.New(), &history{}
	for range 6 {
		for _, p := range bases() {
			l, _ := v.Run(p)
			if !slices.Equal(l, h.run(p)) {
				t.Fatalf("R4: an answer that is written over changes what comes next")
			}
			w := v.Copy()
			fill(l, 1<<23)
			if !v.Same(w) {
				t.Fatalf("R4: an answer is kept")
			}
		}
	}
}

func TestAnswersOfPcmAreNew(t *testing.T) {
	for _, n := range []int{1, 32, 480, 5000} {
		given := repeat(40, n)
		g := guarded(given)
		first, second := synth.Pcm(g), synth.Pcm(g)
		fill(first, 991)
		if !slices.Equal(second, repeat(3, n)) {
			t.Errorf("R4: two answers of Pcm share memory")
		}
		fill(second, 992)
		if slices.ContainsFunc(first[:cap(first)], func(v int64) bool { return v != 991 }) {
			t.Errorf("R4: two answers of Pcm share spare room")
		}
		if !untouched(g, given) {
			t.Errorf("R4: Pcm shares memory with what was handed in")
		}
	}
}
