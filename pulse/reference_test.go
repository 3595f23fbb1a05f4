package pulse_test

import (
	"math/big"

	"madrigal/api"
	"madrigal/rc"
	"madrigal/renc"
)

// Chapter 9 read a second time: the table of chapter 2 written out once more, each call of rc and renc by itself, no recursion, no heap, sums of any length.

var counts = []int{218, 180, 148, 122, 100, 82, 67, 54, 43, 34, 26, 19, 14, 10, 6, 3, 0}

// step is one call of rc's or renc's: by is what a symbol, a number of Uint's, or bits go by.
type step struct {
	what  string
	v, by int
}

func (s step) write(e *renc.Enc) api.Errno {
	switch s.what {
	case "symbol":
		return e.Symbol(s.v, counts)
	case "uint":
		return e.Uint(s.v, s.by)
	}
	return e.Bits(s.v, s.by)
}

func (s step) read(d *rc.Dec) int {
	switch s.what {
	case "symbol":
		return d.Symbol(counts)
	case "uint":
		return d.Uint(s.by)
	}
	return d.Bits(s.by)
}

// run is some samples of a block, and the pulses that they share.
type run struct{ from, to, k int }

// readApart reads by rc's calls alone.
func readApart(d *rc.Dec, n int) []int64 {
	l := make([]int64, n)
	for b := 0; b < n; b += 16 {
		wait := []run{{b, b + 16, d.Symbol(counts)}}
		for len(wait) > 0 {
			r := wait[len(wait)-1]
			wait = wait[:len(wait)-1]
			if r.to-r.from == 1 {
				l[r.from] = int64(r.k)
				continue
			}
			first := 0
			if r.k > 0 {
				first = d.Uint(r.k + 1)
			}
			mid := (r.from + r.to) / 2
			wait = append(wait, run{mid, r.to, r.k - first}, run{r.from, mid, first})
		}
		for i := b; i < b+16; i++ {
			if l[i] != 0 && d.Bits(1) == 1 {
				l[i] = -l[i]
			}
		}
	}
	return l
}

// stepsOf are the calls that tell good pulses. The runs of a block are told in this order, the whole one first.
func stepsOf(l []int64) []step {
	runs := [][2]int{
		{0, 16},
		{0, 8}, {0, 4}, {0, 2}, {2, 4}, {4, 8}, {4, 6}, {6, 8},
		{8, 16}, {8, 12}, {8, 10}, {10, 12}, {12, 16}, {12, 14}, {14, 16},
	}
	var s []step
	for ; len(l) > 0; l = l[16:] {
		s = append(s, step{"symbol", pulses(l[:16]), 0})
		for _, r := range runs {
			if k := pulses(l[r[0]:r[1]]); k > 0 {
				s = append(s, step{"uint", pulses(l[r[0] : (r[0]+r[1])/2]), k + 1})
			}
		}
		for _, v := range l[:16] {
			if v > 0 {
				s = append(s, step{"bits", 0, 1})
			} else if v < 0 {
				s = append(s, step{"bits", 1, 1})
			}
		}
	}
	return s
}

func writeApart(e *renc.Enc, l []int64) {
	for _, s := range stepsOf(l) {
		if x := s.write(e); x != api.OK {
			panic("renc refuses what tells good pulses")
		}
	}
}

// pulses counts those of few.
func pulses(l []int64) int {
	n := int64(0)
	for _, v := range l {
		if v < 0 {
			v = -v
		}
		n += v
	}
	return int(n)
}

// goodApart needs no bound ahead of its sums: they have any length.
func goodApart(l []int64) bool {
	if len(l) == 0 || len(l) > 480 || len(l)%16 > 0 {
		return false
	}
	for ; len(l) > 0; l = l[16:] {
		sum := new(big.Int)
		for _, v := range l[:16] {
			sum.Add(sum, new(big.Int).Abs(big.NewInt(v)))
		}
		if sum.Cmp(big.NewInt(16)) > 0 {
			return false
		}
	}
	return true
}

func within(v, lo, hi int64) int64 {
	if v < lo {
		return lo
	}
	if v > hi {
		return hi
	}
	return v
}

// fewerApart goes through all samples of a block for each pulse that is taken away.
func fewerApart(l []int64, most int) []int64 {
	if len(l) > 480 {
		return nil
	}
	var all []int64
	for _, v := range l {
		all = append(all, within(v, -16, 16))
	}
	for from := 0; from < len(all); from += 16 {
		b := all[from:]
		if len(b) > 16 {
			b = b[:16]
		}
		for pulses(b) > int(within(int64(most), 0, 16)) {
			at := 0
			for i := range b {
				if pulses(b[i:i+1]) >= pulses(b[at:at+1]) {
					at = i
				}
			}
			if b[at] > 0 {
				b[at]--
			} else {
				b[at]++
			}
		}
	}
	return all
}
