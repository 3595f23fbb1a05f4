package renc

import "testing"

// Ranges that are just twice what is open, and begin one past a multiple of it, or one ahead, are too seldom to be met by runs.
func TestEndingIsWithinTheRange(t *testing.T) {
	for k := 23; k <= 31; k++ {
		for _, rng := range []int{1 << k, 1<<k + 1, 1<<k + 99, 1<<(k+1) - 1} {
			if rng <= least || rng > top {
				continue
			}
			for shift := range 31 {
				for low := max(1<<shift-3, 0); low <= 1<<shift+3; low++ {
					e := &Enc{low: low, rng: rng, count: 33}
					end, open := e.ending()
					if end < low || end%(1<<open) != 0 || end+1<<open > low+rng {
						t.Fatalf("P4.2: of the range from %d on, %d: %d, %d bits open", low, rng, end, open)
					}
					if ofBeginning-open != e.Tell() {
						t.Fatalf("P4.2: of the range %d Tell() counts %d bits, %d are left open", rng, e.Tell(), open)
					}
				}
			}
		}
	}
}
