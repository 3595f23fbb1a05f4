package rc_test

import (
	"encoding/binary"
	"hash/fnv"
	"math"
	"math/rand/v2"
	"slices"
	"strconv"
	"testing"

	"madrigal/rc"
	"madrigal/tabs"
)

// call is one call, with its arguments; b is Laplace's second.
type call struct {
	what string
	a, b int
	t    []int
}

func (c call) String() string {
	s := c.what + " " + strconv.Itoa(c.a) + " " + strconv.Itoa(c.b)
	for _, v := range c.t {
		s += " " + strconv.Itoa(v)
	}
	return s
}

// run tells a call's answer as a number.
func run(r reader, c call) int {
	switch c.what {
	case "Symbol":
		return r.Symbol(c.t)
	case "Flag":
		if r.Flag(c.a) {
			return 1
		}
		return 0
	case "Bits":
		return r.Bits(c.a)
	case "Uint":
		return r.Uint(c.a)
	case "Laplace":
		return r.Laplace(c.a, c.b)
	}
	panic("no such call")
}

// falling is the table of n numbers from n - 1 down to 0.
func falling(n int) []int {
	l := make([]int, n)
	for i := range l {
		l[i] = n - 1 - i
	}
	return l
}

// tables are Good, each.
func tables() [][]int {
	l := [][]int{{0}, {1, 0}, {128, 0}, {255, 0}, {2, 1, 0}, {255, 254, 1, 0}, falling(255), falling(256)}
	for k := range 9 {
		l = append(l, tabs.Icdf(k))
	}
	return l
}

// refused are the calls that read nothing.
func refused() []call {
	var l []call
	for _, t := range [][]int{
		nil, {}, {1}, {5}, {-1}, {256}, {256, 0}, {300, 200, 0}, {0, 0}, {5, 5, 0}, {3, 5, 0}, {9, 4}, {9, 0, -1},
		{math.MaxInt, 0}, {0, math.MinInt}, falling(257), falling(256)[:255], append(falling(256), 0), make([]int, 1000),
	} {
		l = append(l, call{what: "Symbol", t: t})
	}
	for _, n := range []int{math.MinInt, -256, -16, -2, -1, 0, 16, 17, 32, 64, 65, 256, 1<<32 + 1, math.MaxInt} {
		l = append(l, call{what: "Flag", a: n})
	}
	for _, n := range []int{math.MinInt, -64, -24, -8, -2, -1, 0, 25, 26, 32, 63, 64, 65, 1<<32 + 1, math.MaxInt} {
		l = append(l, call{what: "Bits", a: n})
	}
	for _, ft := range []int{math.MinInt, -1 << 32, -300, -2, -1, 0, 1, 1 << 32, 1<<32 + 1, 1<<32 + 2, 1 << 33, math.MaxInt} {
		l = append(l, call{what: "Uint", a: ft})
	}
	for _, fs := range []int{math.MinInt, -12000, -1, 0, 1, 255, 28001, 32736, 32768, 1<<32 + 12000, math.MaxInt} {
		l = append(l, call{"Laplace", fs, 8000, nil})
	}
	for _, decay := range []int{math.MinInt, -8000, -2, -1, 16001, 16384, 32768, 1<<32 + 8000, math.MaxInt} {
		l = append(l, call{"Laplace", 12000, decay, nil})
	}
	return append(l, call{"Laplace", 255, -1, nil}, call{"Laplace", 255, 16001, nil}, call{"Laplace", 28001, -1, nil})
}

// drawn is a call that reads, at the edges often.
func drawn(r *rand.Rand) call {
	of := func(l ...int) int { return l[r.IntN(len(l))] }
	switch r.IntN(6) {
	case 0:
		l := tables()
		return call{what: "Symbol", t: l[r.IntN(len(l))]}
	case 1:
		return call{what: "Flag", a: of(1, 2, 15, 1+r.IntN(15))}
	case 2:
		return call{what: "Bits", a: of(0, 1, 23, 24, 1+r.IntN(24))}
	case 3:
		return call{what: "Uint", a: of(1, 2, 3, 255, 256, 257, 258, 511, 512, 513, 2+r.IntN(255))}
	case 4:
		return call{what: "Uint", a: of(1<<16-1, 1<<16, 1<<16+1, 1<<24, 1<<24+1, 1<<32-2, 1<<32-1, 1<<r.IntN(32)+r.IntN(1<<20))}
	}
	return call{"Laplace", of(256, 257, 12000, 28000, 256+r.IntN(27745)), of(0, 1, 8000, 15999, 16000, r.IntN(16001)), nil}
}

// drawnBytes are of many kinds, so that what is seldom comes too.
func drawnBytes(r *rand.Rand, n int) []byte {
	b := make([]byte, n)
	kind := r.IntN(4)
	for i := range b {
		switch v := byte(r.IntN(256)); {
		case kind == 0:
			b[i] = v
		case kind == 1 && v >= 40:
			b[i] = 255
		case kind == 2 && v >= 40:
			b[i] = 0
		case kind == 3:
			b[i] = 255 * (v % 2)
		default:
			b[i] = v
		}
	}
	return b
}

// alike holds what two readers tell against each other.
func alike(t *testing.T, what string, d, r reader) {
	t.Helper()
	if d.Tell() != r.Tell() || d.Bad() != r.Bad() {
		t.Fatalf("%s: Tell %d, Bad %t, want %d, %t", what, d.Tell(), d.Bad(), r.Tell(), r.Bad())
	}
}

func all(n int, v byte) []byte {
	b := make([]byte, n)
	for i := range b {
		b[i] = v
	}
	return b
}

func TestExamples(t *testing.T) {
	if v := rc.New(nil).Tell(); v != 1 {
		t.Errorf("New of nothing: Tell() %d", v)
	}
	if v := rc.New([]byte{0}).Symbol(tabs.Icdf(0)); v != 0 {
		t.Errorf("New({0}): Symbol(Icdf(0)) %d", v)
	}
	if v := rc.New([]byte{255}).Symbol(tabs.Icdf(0)); v != 2 {
		t.Errorf("New({255}): Symbol(Icdf(0)) %d", v)
	}
	if v := rc.New([]byte{255}).Bits(3); v != 7 {
		t.Errorf("New({255}): Bits(3) %d", v)
	}
}

// The first of 256 parts that is chosen is the first byte: so it names the symbol.
func TestFirstByteNamesTheSymbol(t *testing.T) {
	for _, table := range tables() {
		for b := range 256 {
			want := 0
			for _, v := range table {
				if b >= 256-v {
					want++
				}
			}
			if v := rc.New([]byte{byte(b)}).Symbol(table); v != want {
				t.Fatalf("P3.1: Symbol(%d) of the byte %d: %d, want %d", table, b, v, want)
			}
		}
	}
}

// Where each step leaves a power of two as the range, the bits are read as they stand.
func TestBytesAreReadAsTheyStand(t *testing.T) {
	b := []byte{0, 255, 1, 254, 128, 127, 77, 200, 3, 0, 255, 255, 0, 0, 9}
	symbols, numbers, back := rc.New(b), rc.New(b), rc.New(b)
	for i := range len(b) + 5 {
		front, end := 0, 0
		if i < len(b) {
			front, end = int(b[i]), int(b[len(b)-1-i])
		}
		if v := symbols.Symbol(falling(256)); v != front {
			t.Errorf("P3.1: Symbol of 256 numbers, the byte %d: %d, want %d", i, v, front)
		}
		if v := numbers.Uint(256); v != front {
			t.Errorf("P3.2: Uint(256), the byte %d: %d, want %d", i, v, front)
		}
		if v := back.Bits(8); v != end {
			t.Errorf("P3.1: Bits(8), the byte %d from the end: %d, want %d", i, v, end)
		}
		for _, d := range []*rc.Dec{symbols, numbers, back} {
			if v := d.Tell(); v != 9+8*i {
				t.Errorf("P3.4: Tell() behind %d bytes: %d", i+1, v)
			}
			if d.Bad() != (i+1 >= len(b)) {
				t.Errorf("P3.4: Bad() behind %d bytes of %d: %t", i+1, len(b), d.Bad())
			}
		}
	}
}

func TestSymbolOfOneNumberTakesNothing(t *testing.T) {
	b := []byte{200, 3, 99, 250}
	d, plain := rc.New(b), rc.New(b)
	for range 4 {
		for range 100 {
			if v := d.Symbol([]int{0}); v != 0 {
				t.Fatalf("P3.1: Symbol of one number: %d", v)
			}
		}
		if v, want := d.Symbol(tabs.Icdf(5)), plain.Symbol(tabs.Icdf(5)); v != want {
			t.Errorf("P3.1: Symbol behind those of one number: %d, want %d", v, want)
		}
		alike(t, "P3.1: behind Symbol of one number", d, plain)
	}
}

// A flag is true just where the next n bits are all set, if the range is a power of two.
func TestFlag(t *testing.T) {
	for n := 1; n <= 15; n++ {
		ones := uint32(math.MaxUint32) << (32 - n)
		for _, c := range []struct {
			bits uint32
			want bool
		}{
			{math.MaxUint32, true}, {ones, true}, {ones + 2, true}, {ones - 1, false}, {ones - 3, false}, {0, false}, {math.MaxInt32, false}, {ones << 1, false},
		} {
			b := binary.BigEndian.AppendUint32(nil, c.bits)
			d, r := rc.New(b), newReference(b)
			if v := d.Flag(n); v != c.want {
				t.Errorf("P3.1: Flag(%d) of %x: %t", n, b, v)
			}
			r.Flag(n)
			alike(t, "P3.1: behind a flag", d, r)
			if v, want := d.Uint(200), r.Uint(200); v != want {
				t.Errorf("P3.1: Uint(200) behind Flag(%d) of %x: %d, want %d", n, b, v, want)
			}
		}
	}
	if d := rc.New(all(4, 255)); !d.Flag(15) || d.Tell() != 16 || d.Bad() {
		t.Errorf("P3.1: a flag of 15 bits is told as %d", d.Tell()-1)
	}
	if d := rc.New(all(4, 0)); d.Flag(1) || d.Tell() != 2 || d.Flag(15) || d.Tell() != 3 {
		t.Errorf("P3.1: flags that are false are told as %d", d.Tell()-1)
	}
}

func TestBits(t *testing.T) {
	b := []byte{0xde, 0x12, 0x34, 0x56, 0x78, 0x9a, 0xbc}
	d := rc.New(b)
	at := 0
	for _, c := range [][2]int{{4, 0xc}, {4, 0xb}, {0, 0}, {3, 2}, {1, 1}, {24, 0x345678<<4&0xffffff | 9}, {24, 0xde123}, {8, 0}, {24, 0}} {
		if v := d.Bits(c[0]); v != c[1] {
			t.Errorf("P3.1: Bits(%d) behind %d: %x, want %x", c[0], at, v, c[1])
		}
		at += c[0]
		if d.Tell() != 1+at {
			t.Errorf("P3.4: Tell() behind %d bits: %d", at, d.Tell())
		}
	}
	for n := 1; n <= 24; n++ {
		if v := rc.New(all(3, 255)).Bits(n); v != 1<<n-1 {
			t.Errorf("P3.1: Bits(%d) of bits that are all set: %x", n, v)
		}
		if v := rc.New([]byte{0x81}).Bits(n); v != 0x81&(1<<n-1) {
			t.Errorf("P3.1: Bits(%d) of one byte: %x", n, v)
		}
	}
}

// However few or many are asked for at a time, the bits from the end are the same.
func TestBitsInPieces(t *testing.T) {
	b := drawnBytes(rand.New(rand.NewPCG(3, 1)), 60)
	for n := 1; n <= 24; n++ {
		for ahead := range 9 {
			d := rc.New(b)
			at := ahead
			d.Bits(ahead)
			for at < 8*len(b)+60 {
				v := d.Bits(n)
				for i := range n {
					want := 0
					if p := at + i; p < 8*len(b) {
						want = int(b[len(b)-1-p/8] >> (p % 8) & 1)
					}
					if v>>i&1 != want {
						t.Fatalf("P3.1: Bits(%d) at %d: %x", n, at, v)
					}
				}
				at += n
			}
		}
	}
}

// Of nothing, and past the end, all is as if noughts stood there: only Bad tells.
func TestPastTheEnd(t *testing.T) {
	r := rand.New(rand.NewPCG(3, 2))
	for _, b := range [][]byte{nil, {}, {0}, {255}, {1, 255}} {
		d := rc.New(b)
		long, short := rc.New(append(slices.Clone(b), make([]byte, 9000)...)), newReference(b)
		for range 2000 {
			c := drawn(r)
			if c.what == "Bits" || c.what == "Uint" && c.a > 256 {
				c = call{what: "Uint", a: 2 + r.IntN(255)}
			}
			if v, want := run(d, c), run(long, c); v != want {
				t.Fatalf("P3: %s of %x: %d, want %d", c, b, v, want)
			}
		}
		if d.Tell() != long.Tell() || !d.Bad() || long.Bad() {
			t.Errorf("P3.4: far past the end of %x: %d, %t", b, d.Tell(), d.Bad())
		}
		for range 50 {
			if v, want := d.Bits(5), short.Bits(5); v != want {
				t.Errorf("P3.1: Bits(5) of %x: %d, want %d", b, v, want)
			}
		}
	}
}

// The same byte is read from the beginning and from the end.
func TestMeetAndCross(t *testing.T) {
	for n := range 7 {
		b := []byte{201, 18, 77, 240, 5, 166, 91}[:n]
		for bits := 1; bits <= 24; bits++ {
			d, r := rc.New(b), newReference(b)
			for i := range 30 {
				for _, c := range []call{{what: "Uint", a: 256}, {what: "Bits", a: bits}, {what: "Symbol", t: tabs.Icdf(i % 9)}} {
					if v, want := run(d, c), run(r, c); v != want {
						t.Fatalf("P3.1: %s of %d bytes: %d, want %d", c, n, v, want)
					}
					alike(t, "P3.4: where ends cross", d, r)
				}
			}
		}
	}
}

// Bytes enough stand between the two ends that Bad is said by Uint alone.
func TestUint(t *testing.T) {
	for _, c := range []struct {
		ft    int
		front byte
		end   []byte
		want  int
		bad   bool
	}{
		{2, 0, nil, 0, false}, {2, 127, nil, 0, false}, {2, 128, nil, 1, false}, {2, 255, nil, 1, false},
		{3, 0, nil, 0, false}, {3, 255, nil, 2, false}, {255, 255, nil, 254, false},
		{256, 0, nil, 0, false}, {256, 1, nil, 1, false}, {256, 254, nil, 254, false}, {256, 255, nil, 255, false},
		{256, 0, all(3, 255), 0, false}, {255, 0, all(3, 255), 0, false},
		{257, 0, nil, 0, false}, {257, 0, []byte{1}, 1, false}, {257, 255, []byte{254}, 256, false}, {257, 255, []byte{1}, 256, true},
		{258, 255, []byte{254}, 256, false}, {258, 255, []byte{1}, 257, false},
		{259, 255, []byte{254}, 258, false}, {259, 255, []byte{1}, 258, true},
		{511, 255, []byte{254}, 510, false}, {511, 255, []byte{1}, 510, true},
		{512, 255, []byte{254}, 510, false}, {512, 255, []byte{1}, 511, false},
		{513, 255, []byte{252}, 512, false}, {513, 255, []byte{1}, 512, true}, {513, 255, []byte{2}, 512, true}, {513, 255, []byte{3}, 512, true},
		{1 << 16, 9, []byte{77}, 9<<8 | 77, false}, {1 << 16, 255, []byte{255}, 1<<16 - 1, false},
		{1<<16 - 1, 255, []byte{255}, 1<<16 - 2, true}, {1<<16 - 1, 255, []byte{254}, 1<<16 - 2, false},
		{1<<16 + 1, 255, []byte{0}, 1 << 16, false}, {1<<16 + 1, 255, []byte{1}, 1 << 16, true},
		{1 << 24, 9, []byte{5, 77}, 9<<16 | 5<<8 | 77, false},
		{1 << 31, 255, []byte{255, 255, 253}, 1<<31 - 3, false},
		{1<<32 - 1, 0, nil, 0, false}, {1<<32 - 1, 9, []byte{1, 2, 3}, 9<<24 | 1<<16 | 2<<8 | 3, false},
		{1<<32 - 1, 255, all(3, 255), 1<<32 - 2, true}, {1<<32 - 1, 255, []byte{255, 255, 254}, 1<<32 - 2, false},
		{1<<32 - 2, 255, []byte{255, 255, 254}, 1<<32 - 3, true}, {1<<32 - 2, 255, []byte{255, 255, 253}, 1<<32 - 3, false},
	} {
		d := rc.New(slices.Concat(all(8, c.front), make([]byte, 8), c.end))
		if v := d.Uint(c.ft); v != c.want || d.Bad() != c.bad {
			t.Errorf("P3.2: Uint(%d) of %d, %d: %d, Bad() %t, want %d, %t", c.ft, c.front, c.end, v, d.Bad(), c.want, c.bad)
		}
	}
}

// What Uint said once holds from then on.
func TestBadStays(t *testing.T) {
	d := rc.New(all(200, 255))
	if v := d.Uint(257); v != 256 || !d.Bad() {
		t.Fatalf("P3.2: Uint(257) of bits that are all set: %d, Bad() %t", v, d.Bad())
	}
	r := rand.New(rand.NewPCG(3, 3))
	for d.Tell() < 1000 {
		c := drawn(r)
		run(d, c)
		if !d.Bad() {
			t.Fatalf("P3.4: not Bad behind %s", c)
		}
	}
	for _, c := range refused() {
		if run(d, c); !d.Bad() {
			t.Fatalf("P3.4: not Bad behind %s", c)
		}
	}
}

// What is bad may be read all the same: the bits behind it stand where they stood.
func TestReadingGoesOnBehindBad(t *testing.T) {
	b := append(all(20, 255), 0x35, 0xff)
	d, r := rc.New(b), newReference(b)
	for _, c := range []call{{what: "Uint", a: 257}, {what: "Bits", a: 12}, {what: "Flag", a: 3}, {what: "Uint", a: 998}, {what: "Laplace", a: 12000, b: 8000}} {
		if v, want := run(d, c), run(r, c); v != want {
			t.Errorf("P3.2: %s: %d, want %d", c, v, want)
		}
		alike(t, "P3.2: behind what is bad", d, r)
	}
}

// A stream's first 15 bits choose the part of 32768: so each part can be asked for.
func TestAllOfLaplace(t *testing.T) {
	for _, fs := range []int{256, 257, 300, 6000, 12000, 27999, 28000} {
		for _, decay := range []int{0, 1, 300, 8000, 15999, 16000} {
			count := map[int]int{}
			for f := range 32768 {
				b := binary.BigEndian.AppendUint16(nil, uint16(2*f))
				v := rc.New(b).Laplace(fs, decay)
				if want, _, _ := part(f, fs, decay); v != want {
					t.Fatalf("P3.3: Laplace(%d, %d) of the part %d: %d, want %d", fs, decay, f, v, want)
				}
				count[v]++
			}
			if count[0] != fs {
				t.Errorf("P3.3: Laplace(%d, %d): 0 has %d parts", fs, decay, count[0])
			}
		}
	}
}

// What Laplace takes is seen in what is read behind it.
func TestLaplaceTakes(t *testing.T) {
	for _, c := range [][2]int{{256, 0}, {256, 16000}, {12000, 8000}, {28000, 0}, {28000, 16000}, {9001, 777}} {
		for f := range 32768 {
			if f > 600 && f < 32100 && f%17 != 0 {
				continue
			}
			b := binary.BigEndian.AppendUint16(nil, uint16(2*f+f%2))
			b = append(b, byte(f), byte(f*f>>3), 200, 100)
			d, r := rc.New(b), newReference(b)
			d.Laplace(c[0], c[1])
			r.Laplace(c[0], c[1])
			alike(t, "P3.3: behind Laplace", d, r)
			if v, want := d.Uint(251), r.Uint(251); v != want {
				t.Fatalf("P3.3: Uint(251) behind Laplace(%d, %d) of the part %d: %d, want %d", c[0], c[1], f, v, want)
			}
		}
	}
}

func TestLaplaceByHand(t *testing.T) {
	// Of 12000, 8000: -1 and 1 have ((20736 8384) / 32768, down, and 1) 5306 parts each, -2 and 2 (10610 8000) / 32768 and 1: 2591.
	for _, c := range [][2]int{
		{0, 0}, {11999, 0}, {12000, -1}, {17305, -1}, {17306, 1}, {22611, 1}, {22612, -2}, {25202, -2}, {25203, 2}, {27793, 2}, {27794, -3},
	} {
		b := binary.BigEndian.AppendUint16(nil, uint16(2*c[0]))
		if v := rc.New(b).Laplace(12000, 8000); v != c[1] {
			t.Errorf("P3.3: Laplace(12000, 8000) of the part %d: %d, want %d", c[0], v, c[1])
		}
	}
	// Of 256, 0: -1 and 1 have (32480 16384) / 32768 and 1: 16241 parts each, which leaves 30 of one part each.
	for _, c := range [][2]int{
		{255, 0}, {256, -1}, {16496, -1}, {16497, 1}, {32737, 1}, {32738, -2}, {32739, 2}, {32740, -3}, {32741, 3}, {32766, -16}, {32767, 16},
	} {
		b := binary.BigEndian.AppendUint16(nil, uint16(2*c[0]))
		if v := rc.New(b).Laplace(256, 0); v != c[1] {
			t.Errorf("P3.3: Laplace(256, 0) of the part %d: %d, want %d", c[0], v, c[1])
		}
	}
}

func TestRefusedCallsAnswerNothing(t *testing.T) {
	for _, b := range [][]byte{nil, {0}, {255}, all(50, 255), all(50, 0), {77, 12, 200, 3, 9}} {
		d := rc.New(b)
		tell, bad := d.Tell(), d.Bad()
		for _, c := range refused() {
			if v := run(d, c); v != 0 {
				t.Errorf("P3: %s of %d: %d", c, b, v)
			}
			if d.Tell() != tell || d.Bad() != bad {
				t.Fatalf("P3: %s of %d is read: Tell() %d, Bad() %t", c, b, d.Tell(), d.Bad())
			}
		}
	}
}

// At the first numbers that are taken, and the last ones, something is read.
func TestCallsAtTheLimitsRead(t *testing.T) {
	for _, c := range []call{
		{what: "Flag", a: 1}, {what: "Flag", a: 15}, {what: "Bits", a: 1}, {what: "Bits", a: 24},
		{what: "Uint", a: 2}, {what: "Uint", a: 256}, {what: "Uint", a: 257}, {what: "Uint", a: 1<<32 - 1},
		{"Laplace", 256, 0, nil}, {"Laplace", 256, 16000, nil}, {"Laplace", 28000, 0, nil}, {"Laplace", 28000, 16000, nil},
		{what: "Symbol", t: []int{1, 0}}, {what: "Symbol", t: falling(256)},
	} {
		d := rc.New(all(50, 255))
		if run(d, c) == 0 {
			t.Errorf("P3: %s reads nothing", c)
		}
		if d.Tell() <= 1 {
			t.Errorf("P3: %s is not told", c)
		}
	}
}

// One reader is asked all that is refused between any two calls, its twin is not.
func TestRefusedCallsChangeNothing(t *testing.T) {
	r := rand.New(rand.NewPCG(3, 4))
	for range 60 {
		b := drawnBytes(r, r.IntN(40))
		d, twin := rc.New(b), rc.New(b)
		for range 40 {
			for _, c := range refused() {
				run(d, c)
			}
			c := drawn(r)
			if v, want := run(d, c), run(twin, c); v != want {
				t.Fatalf("R3: %s of %x behind refused calls: %d, want %d", c, b, v, want)
			}
			alike(t, "R3: behind refused calls", d, twin)
		}
	}
}

func TestTellAndBadAtTheLastBit(t *testing.T) {
	for n := range 40 {
		d := rc.New(all(n, 0))
		if d.Tell() != 1 || d.Bad() != (n == 0) {
			t.Errorf("P3.4: ahead of all reading of %d bytes: %d, %t", n, d.Tell(), d.Bad())
		}
		for at := 2; at <= 8*n+20; at++ {
			if at%3 == 0 {
				d.Bits(1)
			} else {
				d.Uint(2)
			}
			if d.Tell() != at || d.Bad() != (at > 8*n) {
				t.Fatalf("P3.4: at the bit %d of %d bytes: %d, %t", at, n, d.Tell(), d.Bad())
			}
		}
	}
}

// To tell changes nothing, and what is told never falls.
func TestTellIsAskedAtWill(t *testing.T) {
	r := rand.New(rand.NewPCG(3, 5))
	b := drawnBytes(r, 100)
	d, twin := rc.New(b), rc.New(b)
	was := d.Tell()
	for range 200 {
		c := drawn(r)
		v := run(d, c)
		for range 5 {
			if d.Tell() < was {
				t.Fatalf("P3.4: Tell fell to %d from %d", d.Tell(), was)
			}
			was = d.Tell()
			d.Bad()
		}
		if want := run(twin, c); v != want {
			t.Fatalf("P3.4: %s behind Tell and Bad: %d, want %d", c, v, want)
		}
	}
}

func TestAgainstReference(t *testing.T) {
	rand := rand.New(rand.NewPCG(3, 6))
	for range 1500 {
		b := drawnBytes(rand, rand.IntN(60))
		d, r := rc.New(b), newReference(b)
		for i := range 60 {
			c := drawn(rand)
			if v, want := run(d, c), run(r, c); v != want {
				t.Fatalf("P3: %s of %x, the call %d: %d, want %d", c, b, i, v, want)
			}
			alike(t, "P3: "+c.String(), d, r)
		}
	}
}

func TestBytesAreLeftAsTheyAre(t *testing.T) {
	r := rand.New(rand.NewPCG(3, 7))
	whole := drawnBytes(r, 60)
	was := slices.Clone(whole)
	b := whole[5:40]
	d, twin := rc.New(b), rc.New(slices.Clone(b))
	for i := range 100 {
		c := drawn(r)
		if v, want := run(d, c), run(twin, c); v != want {
			t.Fatalf("R4: %s with room behind the bytes, or with the bytes written over: %d, want %d", c, v, want)
		}
		if !slices.Equal(whole, was) {
			t.Fatalf("R4: %s: the bytes handed in are changed", c)
		}
		for k := range whole {
			whole[k] ^= byte(k + i)
		}
		was = slices.Clone(whole)
	}
}

func TestTablesAreLeftAsTheyAre(t *testing.T) {
	b := []byte{9, 200, 3, 77, 150, 33, 250, 11, 128, 64}
	d, twin := rc.New(b), rc.New(b)
	whole := []int{192, 96, 0, 5, 6, 7}
	for range 8 {
		if v, want := d.Symbol(whole[:3]), twin.Symbol(tabs.Icdf(0)); v != want {
			t.Errorf("R4: Symbol of a piece of a list: %d, want %d", v, want)
		}
		if d.Symbol(whole[:2]) != 0 || !slices.Equal(whole, []int{192, 96, 0, 5, 6, 7}) {
			t.Errorf("R4: Symbol makes its table %d", whole)
		}
	}
	table := []int{128, 0}
	v := d.Symbol(table)
	table[0] = 1
	if v != twin.Symbol([]int{128, 0}) || d.Symbol([]int{200, 50, 0}) != twin.Symbol([]int{200, 50, 0}) {
		t.Errorf("R4: a table is kept")
	}
}

// Readers by turns are as readers one by one.
func TestReadersDontShare(t *testing.T) {
	r := rand.New(rand.NewPCG(3, 8))
	var calls []call
	for range 50 {
		calls = append(calls, drawn(r))
	}
	b := drawnBytes(r, 50)
	first, second := rc.New(b), rc.New(b)
	var answers []int
	for _, c := range calls {
		answers = append(answers, run(first, c))
		run(rc.New(b), c)
	}
	for i, c := range calls {
		if v := run(second, c); v != answers[i] {
			t.Fatalf("R5: %s: %d, want %d", c, v, answers[i])
		}
	}
}

// The checksum is of answers that were reckoned by the chapter's steps, apart from the program.
func TestPinned(t *testing.T) {
	h := fnv.New64a()
	put := func(v int) { h.Write(binary.LittleEndian.AppendUint64(nil, uint64(v))) }
	for n := range 120 {
		b := make([]byte, n)
		for i := range b {
			b[i] = byte(i*i*37 + n*i*11 + 5*n)
		}
		d := rc.New(b)
		for i := range 100 {
			c := pinnedCall(n*100+i, i)
			put(run(d, c))
			put(d.Tell())
			if d.Bad() {
				put(1)
			}
		}
	}
	if v := h.Sum64(); v != pinned {
		t.Errorf("P3: checksum of all answers: %d, want %d", v, uint64(pinned))
	}
}

const pinned = 11377331422540758566

func pinnedCall(seed, i int) call {
	switch i % 6 {
	case 0:
		return call{what: "Symbol", t: tabs.Icdf(seed % 9)}
	case 1:
		return call{what: "Flag", a: 1 + seed%15}
	case 2:
		return call{what: "Bits", a: seed % 25}
	case 3:
		return call{what: "Uint", a: 1 + seed*7919%400}
	case 4:
		return call{what: "Uint", a: 1 + seed*seed*7919%(1<<32-1)}
	}
	return call{"Laplace", 256 + seed*31%27745, seed * 97 % 16001, nil}
}
