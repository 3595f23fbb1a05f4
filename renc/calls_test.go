package renc_test

import (
	"math/rand/v2"
	"slices"
	"strconv"
	"testing"

	"madrigal/api"
	"madrigal/rc"
	"madrigal/renc"
	"madrigal/tabs"
)

// call is one writing: v is what is written (of a flag 1 or 0), the rest is what the call takes beside it.
type call struct {
	what    string
	v, a, b int
	t       []int
}

func (c call) String() string {
	s := c.what
	for _, v := range append([]int{c.v, c.a, c.b}, c.t...) {
		s += " " + strconv.Itoa(v)
	}
	return s
}

// write tells what is written, by what the call says of it.
func write(e *renc.Enc, c call) (int, api.Errno) {
	switch c.what {
	case "Symbol":
		return c.v, e.Symbol(c.v, c.t)
	case "Flag":
		return c.v, e.Flag(c.v == 1, c.a)
	case "Bits":
		return c.v, e.Bits(c.v, c.a)
	case "Uint":
		return c.v, e.Uint(c.v, c.a)
	case "Laplace":
		return e.Laplace(c.v, c.a, c.b)
	}
	panic("no such call")
}

// read reads what the call writes.
func read(d *rc.Dec, c call) int {
	switch c.what {
	case "Symbol":
		return d.Symbol(c.t)
	case "Flag":
		if d.Flag(c.a) {
			return 1
		}
		return 0
	case "Bits":
		return d.Bits(c.a)
	case "Uint":
		return d.Uint(c.a)
	case "Laplace":
		return d.Laplace(c.a, c.b)
	}
	panic("no such call")
}

// run is a writer, and all that it was told, each with what Tell() was behind it.
type run struct {
	e     *renc.Enc
	calls []call
	tells []int
}

// put writes; what was written instead of v (Laplace) is what will be read.
func (r *run) put(t *testing.T, c call) {
	t.Helper()
	v, x := write(r.e, c)
	if x != api.OK {
		t.Fatalf("P4.1: %s: %d", c, x)
	}
	c.v = v
	r.calls = append(r.calls, c)
	r.tells = append(r.tells, r.e.Tell())
}

func (r *run) copied() *run {
	return &run{r.e.Copy(), slices.Clone(r.calls), slices.Clone(r.tells)}
}

// least is the fewest bytes that Tell() allows.
func (r *run) least() int { return (r.e.Tell() + 7) / 8 }

// back reads all out of n bytes.
func (r *run) back(t *testing.T, n int) {
	t.Helper()
	b, x := r.e.Done(n)
	if x != api.OK || len(b) != n {
		t.Fatalf("P4.2: Done(%d) with Tell() %d: %d bytes, %d", n, r.e.Tell(), len(b), x)
	}
	d := rc.New(b)
	for i, c := range r.calls {
		if v := read(d, c); v != c.v {
			t.Fatalf("P4.2: the call %d, %s, out of %d bytes: %d is read", i, c, n, v)
		}
		if d.Tell() != r.tells[i] || d.Bad() {
			t.Fatalf("P4.2: behind the call %d, %s, out of %d bytes: Tell() %d, Bad() %t, want %d", i, c, n, d.Tell(), d.Bad(), r.tells[i])
		}
	}
	if d.Tell() != r.e.Tell() {
		t.Fatalf("P4.2: Tell() %d behind reading all, %d behind writing it", d.Tell(), r.e.Tell())
	}
}

// backAll reads all out of every number of bytes that Tell() allows.
func (r *run) backAll(t *testing.T) {
	t.Helper()
	r.tooFew(t)
	for n := r.least(); n <= api.MaxFrame; n++ {
		r.back(t, n)
	}
}

// tooFew asks for one byte less than Tell() allows.
func (r *run) tooFew(t *testing.T) {
	t.Helper()
	if b, x := r.e.Done(r.least() - 1); x != api.ELIMIT || len(b) != 0 {
		t.Fatalf("P4.2: Done(%d) with Tell() %d: %d bytes, %d", r.least()-1, r.e.Tell(), len(b), x)
	}
}

// falling is the table of n numbers from n - 1 down to 0.
func falling(n int) []int {
	l := make([]int, n)
	for i := range l {
		l[i] = n - 1 - i
	}
	return l
}

// tables are Good, each.
func tables() [][]int {
	l := [][]int{{0}, {1, 0}, {128, 0}, {255, 0}, {2, 1, 0}, {255, 254, 1, 0}, falling(255), falling(256)}
	for k := range 9 {
		l = append(l, tabs.Icdf(k))
	}
	return l
}

// drawn is a call that writes, at the edges often.
func drawn(r *rand.Rand) call {
	of := func(l ...int) int { return l[r.IntN(len(l))] }
	below := func(n int) int { return of(0, n-1, n/2, r.IntN(n), r.IntN(n)) }
	switch r.IntN(6) {
	case 0:
		l := tables()
		t := l[r.IntN(len(l))]
		return call{what: "Symbol", v: below(len(t)), t: t}
	case 1:
		return call{what: "Flag", v: r.IntN(2), a: of(1, 2, 15, 1+r.IntN(15))}
	case 2:
		n := of(0, 1, 7, 8, 9, 23, 24, 1+r.IntN(24))
		return call{what: "Bits", v: below(1 << n), a: n}
	case 3:
		ft := of(1, 2, 3, 255, 256, 257, 258, 511, 512, 513, 2+r.IntN(255))
		return call{what: "Uint", v: below(ft), a: ft}
	case 4:
		ft := of(1<<16-1, 1<<16, 1<<16+1, 1<<24, 1<<24+1, 1<<32-2, 1<<32-1, 1<<r.IntN(32)+r.IntN(1<<20))
		return call{what: "Uint", v: below(ft), a: ft}
	}
	return call{"Laplace", of(0, 1, -1, r.IntN(41)-20, r.IntN(2001)-1000, 40000, -40000),
		of(256, 257, 12000, 28000, 256+r.IntN(27745)), of(0, 1, 8000, 15999, 16000, r.IntN(16001)), nil}
}

// drawnRun writes so many calls.
func drawnRun(t *testing.T, r *rand.Rand, n int) *run {
	t.Helper()
	w := &run{e: renc.New()}
	for range n {
		w.put(t, drawn(r))
	}
	return w
}

// asRead writes what these bytes are read as, by calls of many kinds, as long as they last.
func asRead(t *testing.T, r *rand.Rand, b []byte) *run {
	t.Helper()
	w := &run{e: renc.New()}
	d := rc.New(b)
	for {
		c := drawn(r)
		ahead := *d
		c.v = read(d, c)
		if d.Tell() > 8*len(b) {
			return w
		}
		if d.Bad() {
			// No number is written so: another call is tried.
			*d = ahead
			continue
		}
		w.put(t, c)
		if w.e.Tell() != d.Tell() {
			t.Fatalf("P4.2: Tell() %d behind writing what is read of %x, the last %s; %d behind reading", w.e.Tell(), b, c, d.Tell())
		}
	}
}

func all(n int, v byte) []byte {
	b := make([]byte, n)
	for i := range b {
		b[i] = v
	}
	return b
}
