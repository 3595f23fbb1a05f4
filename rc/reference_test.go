package rc_test

import (
	"math/big"
	"slices"
)

// reader is what both the program and the reference are.
type reader interface {
	Symbol(t []int) int
	Flag(n int) bool
	Bits(n int) int
	Uint(ft int) int
	Laplace(fs, decay int) int
	Tell() int
	Bad() bool
}

// reference reads with numbers of any length: val is not carried from step to step, but is
// the beginning of all bits, each turned, less all that was taken away, at the scale of now.
type reference struct {
	b       []byte
	rng     *big.Int
	away    *big.Int
	front   int // bits from the beginning
	back    int // bits from the end
	refused bool
}

func newReference(b []byte) *reference {
	return &reference{b: slices.Clone(b), rng: powerOfTwo(31), away: new(big.Int), front: 31}
}

func powerOfTwo(n int) *big.Int { return new(big.Int).Lsh(big.NewInt(1), uint(n)) }

// val is what is left of the bits from the beginning.
func (r *reference) val() *big.Int {
	turned := make([]byte, (r.front+7)/8)
	for i := range turned {
		turned[i] = 255
		if i < len(r.b) {
			turned[i] = 255 - r.b[i]
		}
	}
	v := new(big.Int).SetBytes(turned)
	v.Rsh(v, uint(8*len(turned)-r.front))
	return v.Sub(v, r.away)
}

func (r *reference) choose(ft int) int {
	e := new(big.Int).Div(r.rng, big.NewInt(int64(ft)))
	q := int(new(big.Int).Div(r.val(), e).Int64())
	return max(ft-q-1, 0)
}

func (r *reference) take(fl, fh, ft int) {
	e := new(big.Int).Div(r.rng, big.NewInt(int64(ft))).Int64()
	s := big.NewInt(e * int64(ft-fh))
	r.away.Add(r.away, s)
	r.rng.Sub(r.rng, s)
	if fl > 0 {
		r.rng.SetInt64(e * int64(fh-fl))
	}
	r.widen()
}

func (r *reference) widen() {
	for r.rng.Cmp(powerOfTwo(23)) <= 0 {
		r.rng.Lsh(r.rng, 8)
		r.away.Lsh(r.away, 8)
		r.front += 8
	}
}

func good(t []int) bool {
	if len(t) == 0 || len(t) > 256 || t[0] > 255 || t[len(t)-1] != 0 {
		return false
	}
	for i := 1; i < len(t); i++ {
		if t[i] >= t[i-1] {
			return false
		}
	}
	return true
}

func (r *reference) Symbol(t []int) int {
	if !good(t) {
		return 0
	}
	// Each symbol's end, behind the nought at which the first one begins.
	ends := []int{0}
	for _, v := range t {
		ends = append(ends, 256-v)
	}
	f := r.choose(256)
	k := slices.IndexFunc(ends, func(end int) bool { return f < end }) - 1
	r.take(ends[k], ends[k+1], 256)
	return k
}

func (r *reference) Flag(n int) bool {
	if n < 1 || n > 15 {
		return false
	}
	s := new(big.Int).Rsh(r.rng, uint(n))
	seldom := r.val().Cmp(s) < 0
	if seldom {
		r.rng.Set(s)
	} else {
		r.away.Add(r.away, s)
		r.rng.Sub(r.rng, s)
	}
	r.widen()
	return seldom
}

func (r *reference) Bits(n int) int {
	if n < 0 || n > 24 {
		return 0
	}
	v := 0
	for i := range n {
		if at := len(r.b) - 1 - r.back/8; at >= 0 && r.b[at]&(1<<(r.back%8)) != 0 {
			v += 1 << i
		}
		r.back++
	}
	return v
}

func (r *reference) Uint(ft int) int {
	if ft <= 1 || ft >= 1<<32 {
		return 0
	}
	b := 0
	for ft > 256 && (ft-1)>>b > 255 {
		b++
	}
	parts := (ft-1)>>b + 1
	k := r.choose(parts)
	r.take(k, k+1, parts)
	v := k<<b | r.Bits(b)
	if v > ft-1 {
		r.refused = true
		v = ft - 1
	}
	return v
}

func (r *reference) Laplace(fs, decay int) int {
	if fs < 256 || fs > 28000 || decay < 0 || decay > 16000 {
		return 0
	}
	f := r.choose(32768)
	v, from, to := part(f, fs, decay)
	r.take(from, to, 32768)
	return v
}

// part goes through the numbers 0, -1, 1, -2, 2, .., each with its parts, till it is at the one that has f.
func part(f, fs, decay int) (v, from, to int) {
	to = fs
	s := (32736-fs)*(16384-decay)/32768 + 1
	for f >= to {
		if v < 0 {
			v = -v
			from, to = to, to+s
			s = (2*s-2)*decay/32768 + 1
			continue
		}
		v = -v - 1
		from, to = to, to+s
	}
	return v, from, min(to, 32768)
}

func (r *reference) Tell() int { return r.front + 2 + r.back - r.rng.BitLen() }

func (r *reference) Bad() bool { return r.refused || r.Tell() > 8*len(r.b) }
