package pitch_test

import (
	"encoding/binary"
	"hash/fnv"
)

// drawn are bytes by a rule that the values reckoned apart were drawn by too.
func drawn(seed uint32, n int) []byte {
	b := make([]byte, n)
	for i := range b {
		seed = (seed*1103515245 + 12345) % (1 << 31)
		b[i] = byte(seed >> 16)
	}
	return b
}

// drawnSound repeats or doesn't, is loud, quiet or beyond what may be.
func drawnSound(seed uint32) []int64 {
	b := drawn(seed, 1930)
	two := func(i int) int { return int(b[i])*256 + int(b[i+1]) }
	n := []int{2, 3, 4, 5, 17, 64, 319, 320, 479, 480, 959, 960}[b[0]%12]
	period := []int{1 + two(1)%200, n, 1 + two(1)%n}[seed%3]
	times := []int64{1, 3, 1, 1, 1, 1000}[b[3]%6]
	shift := []int{0, 0, 4, 8, 12, 0}[b[3]%6]
	x := make([]int64, n)
	for k := range x {
		x[k] = (int64(two(4+2*(k%period))) - 32768) * times >> shift
	}
	return x
}

func sumOf(l []int64) uint64 {
	h := fnv.New64a()
	var b [8]byte
	for _, v := range l {
		binary.LittleEndian.PutUint64(b[:], uint64(v))
		h.Write(b[:])
	}
	return h.Sum64()
}
