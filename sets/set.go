package sets

import (
	"math/bits"

	"graft/api"
)

// set is a set of names or of terminals, a bit each. error and end stand behind the rules.
type set [(max(api.MaxNames, api.MaxLex+2) + 63) / 64]uint64

// family is a set for each name.
type family [api.MaxNames]set

func (s set) has(n int) bool { return s[n/64]>>(n%64)&1 != 0 }

func (s set) with(n int) set {
	s[n/64] |= 1 << (n % 64)
	return s
}

func (s set) or(o set) set {
	for i, w := range o {
		s[i] |= w
	}
	return s
}

// list tells what is in a set, rising.
func (s set) list() []int {
	var out []int
	for i, w := range s {
		for ; w != 0; w &= w - 1 {
			out = append(out, 64*i+bits.TrailingZeros64(w))
		}
	}
	return out
}

// least finds the least fixed point: it takes steps till one answers that nothing grew by it.
func least[T any](begin T, step func(*T) bool) T {
	for step(&begin) {
	}
	return begin
}
