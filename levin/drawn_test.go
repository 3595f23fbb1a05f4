package levin_test

import (
	"encoding/binary"
	"hash/fnv"
	"testing"

	"madrigal/levin"
)

// drawn are bytes by a rule that the values reckoned apart were drawn by too.
func drawn(seed uint32, n int) []byte {
	b := make([]byte, n)
	for i := range b {
		seed = (seed*1103515245 + 12345) % (1 << 31)
		b[i] = byte(seed >> 16)
	}
	return b
}

// noise is what drives a filter.
func noise(seed uint32, n int) []int64 {
	l := make([]int64, n)
	for k, v := range drawn(seed, n) {
		l[k] = 3 * (int64(v) - 128)
	}
	return l
}

// driven is a sound that a filter makes.
func driven(drive, a []int64) []int64 {
	l := make([]int64, len(drive))
	for n, v := range drive {
		for k, f := range a {
			if n > k {
				v += (f*l[n-1-k] + 2048) >> 12
			}
		}
		// a filter may be one that does not die away
		l[n] = within(v, -1<<40, 1<<40)
	}
	return l
}

// drawnSound is made by a filter, or is noise, or has few numbers that are not 0: loud, quiet, or beyond what may be.
func drawnSound(seed uint32) []int64 {
	b := drawn(seed, 100)
	n := []int{0, 1, 2, 3, 17, 32, 33, 80, 160, 480, 959, 960}[b[0]%12]
	var a []int64
	for k := range int(b[1] % 17) {
		a = append(a, (int64(b[10+k])-128)*int64(b[2]%16))
	}
	x := driven(noise(seed+7, n), a)
	for k := range x {
		if b[3]%5 == 0 && k%16 > 0 {
			x[k] = 0
		}
		x[k] = x[k] * []int64{1, 1, 20, 300000}[b[4]%4] >> []int{0, 0, 4, 7}[b[5]%4]
	}
	return x
}

// drawnSums are such as Auto might tell, and such as it could not.
func drawnSums(seed uint32) []int64 {
	b := drawn(seed, 400)
	eight := func(k int) int64 { return int64(binary.BigEndian.Uint64(b[8*k:])) }
	n := 2 + int(b[0])%32
	r := make([]int64, n)
	r[0] = eight(1)&(1<<62-1)>>(b[1]%62) + 1
	for k := range n - 1 {
		switch at := 2 + k; b[2] % 5 {
		case 0:
			r[1+k] = eight(at) >> (b[8*at] % 64)
		case 1:
			r[1+k] = (eight(at)>>63|1)<<41 + int64(b[8*at+1]%3) - 1
		case 2:
			r[1+k] = within(r[0], 0, 1<<50) * (eight(at) >> 55) / 256
		default:
			r[1+k] = within(r[0], 0, 1<<50) / 4096 * (4096 - int64(b[3]%40)*int64(k+1) - eight(at)>>60)
		}
	}
	return r
}

func sumOf(l []int64) uint64 {
	h := fnv.New64a()
	var b [8]byte
	for _, v := range l {
		binary.LittleEndian.PutUint64(b[:], uint64(v))
		h.Write(b[:])
	}
	return h.Sum64()
}

// Values reckoned apart from the program, in another language.
func TestDrawn(t *testing.T) {
	for _, c := range []struct {
		first, count                   uint32
		auto, solve, sound, rest, best uint64
	}{
		{1, 100, 13742566921092782249, 10111047269748187984, 4244901765293186291, 9611431854798087199, 13031652749450938731},
		{1000, 100, 18320274600038443064, 432506583731469366, 3488978933748532942, 13234888508333214288, 14214020179068665320},
	} {
		var auto, solve, sound, rest, best []int64
		for seed := c.first; seed < c.first+c.count; seed++ {
			x := drawnSound(seed)
			r, _ := levin.Auto(x, 1+int(seed%32))
			auto = append(auto, r...)
			a, _ := levin.Solve(r)
			sound = append(sound, a...)
			f, _ := levin.Solve(drawnSums(seed))
			solve = append(solve, f...)
			l, _ := levin.Rest(x, a)
			m, _ := levin.Rest(x, f)
			rest = append(append(append(rest, l...), m...), levin.Power(l), levin.Power(m))
			for _, order := range orders() {
				i, _ := levin.Best(x, order)
				best = append(best, int64(i))
			}
		}
		for _, s := range []struct {
			what string
			l    []int64
			want uint64
		}{{"Auto", auto, c.auto}, {"Solve of sounds", sound, c.sound}, {"Solve of any sums", solve, c.solve}, {"Rest and Power", rest, c.rest}, {"Best", best, c.best}} {
			if h := sumOf(s.l); h != s.want {
				t.Errorf("P12: %s, %d times from %d on: checksum %d, want %d", s.what, c.count, c.first, h, s.want)
			}
		}
	}
}
