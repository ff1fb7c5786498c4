package table

import (
	"math"

	"graft/api"
)

// mostTerminals is how many there can be: error and end stand behind the rules.
const mostTerminals = api.MaxLex + 2

// set is a set of terminals, a bit each.
type set [(mostTerminals + 63) / 64]uint64

func (s set) has(n int) bool { return s[n/64]>>(n%64)&1 != 0 }

func (s set) with(n int) set {
	s[n/64] |= 1 << (n % 64)
	return s
}

func (s set) or(o set) set {
	for i, w := range o {
		s[i] |= w
	}
	return s
}

// spread puts into each node's set those of all nodes to which its relation leads, by one step or more. The walk goes in depth; nodes that lead to one another are open together, and have the same set when the first of them is done.
func spread(list []set, next [][]int) {
	const closed = math.MaxInt
	low := make([]int, len(list)) // 0: not seen; how deep the first open node lies to which it leads; closed
	var open []int
	var walk func(n int)
	walk = func(n int) {
		open = append(open, n)
		depth := len(open)
		low[n] = depth
		for _, m := range next[n] {
			if low[m] == 0 {
				walk(m)
			}
			low[n] = min(low[n], low[m])
			list[n] = list[n].or(list[m])
		}
		if low[n] < depth {
			return
		}
		for _, m := range open[depth-1:] {
			low[m], list[m] = closed, list[n]
		}
		open = open[:depth-1]
	}
	for n := range list {
		if low[n] == 0 {
			walk(n)
		}
	}
}
