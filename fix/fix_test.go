package fix_test

import (
	"encoding/binary"
	"hash/fnv"
	"math"
	"slices"
	"testing"

	"madrigal/fix"
)

const (
	least = math.MinInt64
	most  = math.MaxInt64
)

// edges are numbers at which a rule of the chapter changes, and ordinary ones between.
func edges() []int64 {
	up := []int64{
		0, 1, 2, 3, 4, 5, 7, 8, 127, 255, 256, 1000, 32767, 32768, 65535, 65536, 123456789,
		1<<30 - 1, 1 << 30, 1<<31 - 1, 1 << 31, 1<<31 + 1, 1<<40 - 1, 1 << 40, 1<<40 + 1, 1 << 56, 1 << 62, most - 1, most,
	}
	l := []int64{least, least + 1}
	for _, v := range up {
		l = append(l, v, -v)
	}
	return l
}

func TestExamples(t *testing.T) {
	for _, c := range []struct {
		call      string
		got, want int64
	}{
		{"Mul(3, 1, 1)", fix.Mul(3, 1, 1), 2},
		{"Mul(-3, 1, 1)", fix.Mul(-3, 1, 1), -1},
		{"Div(7, 2, 0)", fix.Div(7, 2, 0), 3},
		{"Div(-7, 2, 0)", fix.Div(-7, 2, 0), -4},
		{"Log2(256)", fix.Log2(256), 2048},
		{"Log2(3)", fix.Log2(3), 405},
		{"Exp2(256)", fix.Exp2(256), 2},
		{"Exp2(2048)", fix.Exp2(2048), 256},
		{"Sqrt(8)", fix.Sqrt(8), 2},
		{"Cos(0)", fix.Cos(0), 32768},
		{"Cos(16384)", fix.Cos(16384), 0},
		{"Sin(16384)", fix.Sin(16384), 32768},
	} {
		if c.got != c.want {
			t.Errorf("%s: %d, want %d", c.call, c.got, c.want)
		}
	}
}

func TestClamp(t *testing.T) {
	for _, c := range [][4]int64{
		{5, 1, 9, 5}, {0, 1, 9, 1}, {1, 1, 9, 1}, {2, 1, 9, 2}, {8, 1, 9, 8}, {9, 1, 9, 9}, {10, 1, 9, 9},
		{-5, -9, -1, -5}, {-10, -9, -1, -9}, {0, -9, -1, -1},
		{6, 7, 7, 7}, {7, 7, 7, 7}, {8, 7, 7, 7},
		{0, 9, 1, 9}, {1, 9, 1, 9}, {5, 9, 1, 9}, {9, 9, 1, 9}, {10, 9, 1, 9}, {most, 9, 1, 9}, {least, 9, 1, 9},
		{most, least, most, most}, {least, least, most, least}, {0, most, least, most},
		{least, -3, 3, -3}, {most, -3, 3, 3},
	} {
		if v := fix.Clamp(c[0], c[1], c[2]); v != c[3] {
			t.Errorf("P1.1: Clamp(%d, %d, %d): %d, want %d", c[0], c[1], c[2], v, c[3])
		}
	}
}

func TestSat16(t *testing.T) {
	for _, c := range [][2]int64{
		{0, 0}, {-5, -5}, {32766, 32766}, {32767, 32767}, {32768, 32767}, {most, 32767},
		{-32767, -32767}, {-32768, -32768}, {-32769, -32768}, {least, -32768}, {1 << 32, 32767}, {-1 << 32, -32768},
	} {
		if v := fix.Sat16(c[0]); v != c[1] {
			t.Errorf("P1.1: Sat16(%d): %d, want %d", c[0], v, c[1])
		}
	}
}

func TestMul(t *testing.T) {
	for _, c := range []struct {
		a, b int64
		s    int
		want int64
	}{
		{6, 7, 0, 42}, {-6, 7, 0, -42}, {1, 1, 1, 1}, {-1, 1, 1, 0}, {5, 1, 2, 1}, {6, 1, 2, 2}, {-6, 1, 2, -1}, {-7, 1, 2, -2},
		{1 << 31, 1, 0, 1 << 31}, {1<<31 + 1, 1, 0, 1 << 31}, {1, 1<<31 + 1, 0, 1 << 31}, {-1<<31 - 1, 1, 0, -1 << 31}, {1, -1<<31 - 1, 0, -1 << 31},
		{1<<31 - 1, 1, 0, 1<<31 - 1}, {most, most, 0, 1 << 62}, {most, least, 0, -1 << 62}, {least, least, 0, 1 << 62},
		{most, most, 1, 1 << 61}, {most, least, 1, -1 << 61},
		{most, most, 61, 2}, {most, most, 62, 1}, {most, least, 62, -1}, {1 << 31, 1 << 30, 62, 1}, {1 << 31, 1<<30 - 1, 62, 0},
		{-1 << 31, 1 << 30, 62, 0}, {-1 << 31, 1<<30 + 1, 62, -1}, {most, most, 63, 0}, {most, least, 63, 0}, {5, 7, 64, 0},
		{5, 7, -1, 0}, {5, 7, math.MinInt, 0}, {5, 7, math.MaxInt, 0},
	} {
		if v := fix.Mul(c.a, c.b, c.s); v != c.want {
			t.Errorf("P1.1: Mul(%d, %d, %d): %d, want %d", c.a, c.b, c.s, v, c.want)
		}
	}
}

func TestMulLikeTheReference(t *testing.T) {
	for _, a := range edges() {
		for _, b := range edges() {
			for s := -3; s <= 66; s++ {
				if v, want := fix.Mul(a, b, s), mul(a, b, s); v != want {
					t.Fatalf("P1.1: Mul(%d, %d, %d): %d, want %d", a, b, s, v, want)
				}
			}
		}
	}
}

func TestDiv(t *testing.T) {
	for _, c := range []struct {
		a, b int64
		s    int
		want int64
	}{
		{7, -2, 0, -4}, {-7, -2, 0, 3}, {6, 3, 0, 2}, {-6, 3, 0, -2}, {6, -3, 0, -2}, {-6, -3, 0, 2}, {0, -5, 9, 0}, {-1, 1000, 0, -1}, {1, -1000, 0, -1},
		{1, 3, 1, 0}, {1, 3, 2, 1}, {-1, 3, 2, -2}, {1, 3, 30, 357913941}, {-1, 3, 30, -357913942},
		{5, 0, 0, 0}, {-5, 0, 30, 0}, {0, 0, 0, 0}, {5, 1, -1, 0}, {5, 1, 30, 5 << 30}, {5, 1, 31, 0}, {5, 1, math.MinInt, 0}, {5, 1, math.MaxInt, 0},
		{most, 1, 30, 1 << 61}, {least, 1, 30, -1 << 61}, {least, -1, 0, 1 << 31}, {least, -1, 30, 1 << 61}, {1<<31 + 1, 1, 0, 1 << 31}, {1<<31 - 1, 1, 0, 1<<31 - 1},
		{most, most, 0, 1}, {most, least, 0, -1}, {1, most, 30, 0}, {4, most, 30, 2}, {-1, most, 30, -1}, {-1, least, 30, 0}, {-4, least, 30, 2},
	} {
		if v := fix.Div(c.a, c.b, c.s); v != c.want {
			t.Errorf("P1.1: Div(%d, %d, %d): %d, want %d", c.a, c.b, c.s, v, c.want)
		}
	}
}

func TestDivLikeTheReference(t *testing.T) {
	for _, a := range edges() {
		for _, b := range edges() {
			for s := -3; s <= 66; s++ {
				if v, want := fix.Div(a, b, s), div(a, b, s); v != want {
					t.Fatalf("P1.1: Div(%d, %d, %d): %d, want %d", a, b, s, v, want)
				}
			}
		}
	}
}

// many is n times a, and what stands behind.
func many(n int, a int64, behind ...int64) []int64 {
	return append(slices.Repeat([]int64{a}, n), behind...)
}

func TestSum(t *testing.T) {
	for _, c := range []struct {
		of   string
		l    []int64
		want int64
	}{
		{"nil", nil, 0},
		{"nothing", []int64{}, 0},
		{"one", []int64{-7}, -7},
		{"three", []int64{1, 2, -7}, -4},
		{"the greatest summand", []int64{1 << 40}, 1 << 40},
		{"one below it", []int64{1<<40 - 1}, 1<<40 - 1},
		{"one above it", []int64{1<<40 + 1, 1}, 1<<40 + 1},
		{"the least summand", []int64{-1 << 40}, -1 << 40},
		{"one above the least", []int64{1 - 1<<40}, 1 - 1<<40},
		{"one below the least", []int64{-1<<40 - 1, -1}, -1<<40 - 1},
		{"both ends", []int64{most, least, 5}, 5},
		{"up to the bound", many(1<<16, most), 1 << 56},
		{"one short of the bound", many(1<<16, most, -1), 1<<56 - 1},
		{"past the bound", many(1<<16+9, most), 1 << 56},
		{"past the bound and back", many(1<<16+9, most, -5), 1<<56 - 5},
		{"down to the bound", many(1<<16, least), -1 << 56},
		{"below the bound", many(1<<16, least, -1), -1 << 56},
		{"below the bound and back", many(1<<16+9, least, 5), 5 - 1<<56},
	} {
		if v := fix.Sum(c.l...); v != c.want {
			t.Errorf("P1.1: Sum of %s: %d, want %d", c.of, v, c.want)
		}
	}
	if v := fix.Sum(); v != 0 {
		t.Errorf("P1.1: Sum(): %d", v)
	}
}

func TestSumLeavesItsList(t *testing.T) {
	whole := []int64{most, 3, least, 77, 78}
	was := slices.Clone(whole)
	fix.Sum(whole[:3]...)
	if !slices.Equal(whole, was) {
		t.Errorf("R4: Sum made its list %d", whole)
	}
}

func TestLen(t *testing.T) {
	for _, c := range []struct {
		a    int64
		want int
	}{{least, 0}, {-256, 0}, {-1, 0}, {0, 0}, {1, 1}, {2, 2}, {3, 2}, {4, 3}, {255, 8}, {256, 9}, {1 << 31, 32}, {1<<32 - 1, 32}, {1<<62 - 1, 62}, {1 << 62, 63}, {most, 63}} {
		if v := fix.Len(c.a); v != c.want {
			t.Errorf("P1.2: Len(%d): %d, want %d", c.a, v, c.want)
		}
	}
}

func TestLog2(t *testing.T) {
	for _, c := range [][2]int64{
		{least, 0}, {-256, 0}, {-1, 0}, {0, 0}, {1, 0}, {2, 256}, {4, 512}, {5, 594}, {6, 661}, {7, 718}, {9, 811}, {10, 850}, {100, 1700},
		{255, 2046}, {257, 2049}, {1000, 2551}, {32767, 3839}, {32769, 3840}, {65535, 4095}, {1000000, 5102},
		{1<<30 - 1, 7679}, {1 << 30, 7680}, {1<<30 + 1, 7680}, {1<<31 - 1, 7935}, {1 << 31, 7936}, {1<<31 + 1, 7936}, {1<<32 - 1, 8191},
		{1<<40 + 12345, 10240}, {3 << 40, 10645}, {1234567890123456789, 15385}, {1<<62 - 1, 15871}, {1 << 62, 15872}, {most, 16127},
		// On the way of these a step is 2^31 to the letter, or one that is rounded up would end elsewhere.
		{1276901417, 7744}, {1518500250, 7808}, {1655936265, 7840}, {1805811302, 7872}, {1155178580, 7706}, {1199807867, 7720}, {1287315695, 7746},
		{1079572136, 7681}, {1085434106, 7683}, {1121280436, 7695}, {551246353173, 9984}, {552740933913, 9985}, {653773525517, 10048},
	} {
		if v := fix.Log2(c[0]); v != c[1] {
			t.Errorf("P1.2: Log2(%d): %d, want %d", c[0], v, c[1])
		}
	}
	same(t, "P1.2: Log2 of 1 to 65536", 1, 65537, fix.Log2, 17690756697552182655)
}

func TestLog2OfPowers(t *testing.T) {
	for n := range int64(63) {
		for _, m := range []int64{0, 1, 2, 3, 17, 100, 255} {
			a := (1 << n) + m<<n>>8
			if v, near := fix.Log2(a), 256*math.Log2(float64(a)); float64(v) > near+1e-6 || float64(v) < near-1.01 {
				t.Errorf("P1.2: Log2(%d): %d, but it is near %g", a, v, near)
			}
		}
	}
}

func TestExp2(t *testing.T) {
	for _, c := range [][2]int64{
		{least, 1}, {-256, 1}, {-1, 1}, {0, 1}, {1, 1}, {128, 1}, {255, 2}, {257, 2}, {383, 3}, {385, 3}, {511, 4}, {512, 4}, {1000, 15}, {2047, 255}, {2049, 257},
		{4000, 50535}, {5000, 757691}, {6000, 11360319}, {7000, 170329136}, {7423, 535419244}, {7424, 1 << 29}, {7679, 1070838487}, {7680, 1 << 30}, {7681, 1076653033},
		{7808, 1518500250}, {7934, 2135886000}, {7935, 2141676974}, {7936, 2141676974}, {8192, 2141676974}, {99999, 2141676974}, {most, 2141676974},
	} {
		if v := fix.Exp2(c[0]); v != c[1] {
			t.Errorf("P1.2: Exp2(%d): %d, want %d", c[0], v, c[1])
		}
	}
	same(t, "P1.2: Exp2 of 0 to 7935", 0, 7936, fix.Exp2, 1145562006915639016)
}

func TestSqrt(t *testing.T) {
	for _, c := range [][2]int64{
		{least, 0}, {-4, 0}, {-1, 0}, {0, 0}, {1, 1}, {2, 1}, {3, 1}, {4, 2}, {8, 2}, {9, 3}, {15, 3}, {16, 4}, {17, 4},
		{1<<62 - 1, 1<<31 - 1}, {1 << 62, 1 << 31}, {3037000499*3037000499 - 1, 3037000498}, {3037000499 * 3037000499, 3037000499}, {most, 3037000499},
	} {
		if v := fix.Sqrt(c[0]); v != c[1] {
			t.Errorf("P1.2: Sqrt(%d): %d, want %d", c[0], v, c[1])
		}
	}
	for r := int64(2); r < 3037000499; r += 1 + r/97 {
		if v := fix.Sqrt(r * r); v != r {
			t.Errorf("P1.2: Sqrt(%d): %d, want %d", r*r, v, r)
		}
		if v := fix.Sqrt(r*r - 1); v != r-1 {
			t.Errorf("P1.2: Sqrt(%d): %d, want %d", r*r-1, v, r-1)
		}
	}
}

func TestCircle(t *testing.T) {
	for _, c := range [][3]int64{
		{0, 32768, 0}, {1, 32768, 3}, {181, 32763, 569}, {1000, 32618, 3137}, {4096, 30274, 12540}, {5461, 28378, 16383},
		{8191, 23173, 23168}, {8192, 23170, 23170}, {8193, 23168, 23173}, {12288, 12540, 30274},
		{16383, 3, 32768}, {16384, 0, 32768}, {16385, -3, 32768}, {20000, -11134, 30819}, {24576, -23170, 23170},
		{32767, -32768, 3}, {32768, -32768, 0}, {32769, -32768, -3}, {40000, -25202, -20943},
		{49151, -3, -32768}, {49152, 0, -32768}, {49153, 3, -32768}, {57344, 23170, -23170}, {65535, 32768, -3}, {65536, 32768, 0}, {65537, 32768, 3},
		{-1, 32768, -3}, {-1000, 32618, -3137}, {-8192, 23170, -23170}, {-16383, 3, -32768}, {-16384, 0, -32768}, {-16385, -3, -32768},
		{-32768, -32768, 0}, {-49152, 0, 32768}, {-65535, 32768, 3}, {-65536, 32768, 0}, {-65537, 32768, -3},
		{least, 32768, 0}, {least + 1000, 32618, 3137}, {least + 16383, 3, 32768}, {most, 32768, -3}, {most - 999, 32618, -3137},
	} {
		if v := fix.Cos(c[0]); v != c[1] {
			t.Errorf("P1.3: Cos(%d): %d, want %d", c[0], v, c[1])
		}
		if v := fix.Sin(c[0]); v != c[2] {
			t.Errorf("P1.3: Sin(%d): %d, want %d", c[0], v, c[2])
		}
	}
	same(t, "P1.3: Cos of a turn", 0, 65536, fix.Cos, 15891747353162118195)
	same(t, "P1.3: Sin of a turn", 0, 65536, fix.Sin, 8779801317686097555)
	same(t, "P1.3: Cos of a turn below 0", -65536, 0, fix.Cos, 15891747353162118195)
	same(t, "P1.3: Sin of a turn below 0", -65536, 0, fix.Sin, 8779801317686097555)
}

func TestCircleIsRound(t *testing.T) {
	for a := range int64(65536) {
		arc := float64(a) * math.Pi / 32768
		if v, near := fix.Cos(a), 32768*math.Cos(arc); math.Abs(float64(v)-near) > 0.51 {
			t.Errorf("P1.3: Cos(%d): %d, but it is near %g", a, v, near)
		}
		if v, near := fix.Sin(a), 32768*math.Sin(arc); math.Abs(float64(v)-near) > 0.51 {
			t.Errorf("P1.3: Sin(%d): %d, but it is near %g", a, v, near)
		}
	}
}

// same holds all answers from a number up to another one against the checksum of those that the chapter's steps give.
func same(t *testing.T, what string, from, to int64, f func(int64) int64, want uint64) {
	t.Helper()
	h := fnv.New64a()
	var b [8]byte
	for a := from; a < to; a++ {
		binary.LittleEndian.PutUint64(b[:], uint64(f(a)))
		h.Write(b[:])
	}
	if v := h.Sum64(); v != want {
		t.Errorf("%s: checksum %d, want %d", what, v, want)
	}
}
